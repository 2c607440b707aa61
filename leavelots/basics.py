"""What names, sequences and lots are."""

LETTERS = "abcdefghijklmnopqrstuvwxyz"


def is_int(value):
    """Whether any value is an integer, which a bool is not."""
    return isinstance(value, int) and not isinstance(value, bool)


def is_index(value, many):
    """Whether a value is an integer from 0 on and below `many`."""
    return is_int(value) and 0 <= value < many


def is_name(value):
    """Whether any value is a name."""
    if not isinstance(value, str) or value == "if":
        return False
    return 1 <= len(value) <= 3 and all([letter in LETTERS for letter in value])


def is_sequence(value):
    """Whether any value is a sequence."""
    return isinstance(value, (list, tuple))


def are_names(value):
    """Whether any value is a sequence of names, perhaps some twice."""
    return is_sequence(value) and all([is_name(thing) for thing in value])


def are_unlike(value):
    """Whether any value is a sequence of unlike names."""
    return are_names(value) and len(set(value)) == len(value)


def lot_of(names):
    """The lot of the names of a sequence."""
    return tuple(sorted(set(names)))


def is_lot(value):
    """Whether any value is a lot: a list is equal to no tuple, so it is none."""
    return are_names(value) and value == lot_of(value)


def bits_of(names, some):
    """The integer that has the bits of some unlike ones of a lot."""
    return sum([1 << names.index(name) for name in some])


def names_of(names, bits):
    """The lot of those of a lot whose bits an integer has."""
    return tuple([name for at, name in enumerate(names) if (bits >> at) & 1])
