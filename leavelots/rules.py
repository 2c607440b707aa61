"""Rules: who may leave once whom are gone."""

from leavelots.basics import are_names, is_name, lot_of
from leavelots.errors import InvalidRule


class Rule:
    """`name` may leave once all of `gone` are gone."""

    def __init__(self, name, gone=()):
        if not is_name(name):
            raise InvalidRule("name")
        if not are_names(gone) or name in gone:
            raise InvalidRule("gone")
        self.name = name
        self.gone = lot_of(gone)

    def __eq__(self, other):
        return isinstance(other, Rule) and self.name == other.name and self.gone == other.gone

    def __str__(self):
        if not self.gone:
            return str(self.name)
        return " ".join([self.name, "if", *self.gone])


def read_rule(line):
    """The rule that a line tells; InvalidRule if it tells none."""
    name, *rest = line.split(" ")
    if not rest:
        return Rule(name)
    if rest[0] != "if" or len(rest) == 1:
        raise InvalidRule("gone")
    return Rule(name, rest[1:])
