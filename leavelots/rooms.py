"""Rooms: the rules by which people leave."""

from leavelots.basics import is_index, is_sequence, lot_of
from leavelots.errors import InvalidRoom, InvalidRule, InvalidText, NoRule
from leavelots.rules import Rule, read_rule


class Room:
    """Somebody may leave as soon as one of the rules for this name is fulfilled."""

    def __init__(self, rules=()):
        if not is_sequence(rules):
            raise InvalidRoom(0)
        for at, rule in enumerate(rules):
            if not isinstance(rule, Rule):
                raise InvalidRoom(at)
        self.rules = tuple(rules)
        self.names = lot_of([name for rule in rules for name in (rule.name, *rule.gone)])

    @classmethod
    def read(cls, text):
        """The room with this text; InvalidText with the number of the first line that is no rule."""
        if not isinstance(text, str):
            raise InvalidText(0)
        # "".split("\n") would give one line, but the empty text has none.
        lines = text.split("\n") if text else []
        rules = []
        for at, line in enumerate(lines):
            try:
                rules.append(read_rule(line))
            except InvalidRule:
                raise InvalidText(at) from None
        return cls(rules)

    def without(self, at):
        """The room that has not the rule with this index."""
        if not is_index(at, len(self.rules)):
            raise NoRule(at)
        return Room(self.rules[:at] + self.rules[at + 1:])

    def __len__(self):
        return len(self.rules)

    def __getitem__(self, at):
        if not is_index(at, len(self.rules)):
            raise NoRule(at)
        return self.rules[at]

    # Without this, Python would iterate over a room by its indexes.
    def __iter__(self):
        raise TypeError("a room is not iterable")

    def __add__(self, other):
        if not isinstance(other, Room):
            return NotImplemented
        return Room(self.rules + other.rules)

    def __eq__(self, other):
        return isinstance(other, Room) and self.rules == other.rules

    def __str__(self):
        return "\n".join([str(rule) for rule in self.rules])
