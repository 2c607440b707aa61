"""Desks: a led room that is told by commands what to do."""

from leavelots.errors import InvalidCommand
from leavelots.led import Led
from leavelots.lots import stuck
from leavelots.orders import last, many, order_at
from leavelots.reasons import fewest
from leavelots.rooms import Room

DIGITS = "0123456789"


def told(names):
    """The text that tells names."""
    return " ".join(names) if names else "none"


def told_may(led):
    """Who may leave now."""
    return told(led.may)


def told_gone(led):
    """Who is gone, in order."""
    return told(led.gone)


def told_stuck(led):
    """Those who are stuck in the room."""
    return told(stuck(led.room))


def told_last(led):
    """The last ones of the room."""
    return told(last(led.room))


def told_many(led):
    """The number of orders of the room."""
    return str(many(led.room))


def told_fewest(led):
    """How many orders tell the room."""
    return str(len(fewest(led.room)))


def told_undo(led):
    """Takes back the last deed: whether there was one."""
    return "undone" if led.undo() else "nothing"


def told_leave(led, name):
    """Lets somebody leave: who may leave then."""
    led.leave(name)
    return told(led.may)


def told_order(led, word):
    """The order with a number; InvalidCommand if the word is none."""
    if not is_number(word):
        raise InvalidCommand()
    return told(order_at(led.room, int(word)))


def is_number(word):
    """Whether a word has at most six decimal digits, without leading zeros."""
    if len(word) > 6 or not all([letter in DIGITS for letter in word]):
        return False
    return word == "0" or not word.startswith("0")


def told_room(led, text):
    """Goes on with another room: the number of names."""
    led.follow(Room.read(text.replace(" ; ", "\n")))
    return str(len(led.room.names))


ONE_WORD = {
    "may": told_may,
    "gone": told_gone,
    "stuck": told_stuck,
    "last": told_last,
    "many": told_many,
    "fewest": told_fewest,
    "undo": told_undo,
}
TWO_WORDS = {"leave": told_leave, "order": told_order}


class Desk:
    """Does commands and answers them; at first its room has no rules."""

    def __init__(self):
        self.led = Led(Room())

    def say(self, command):
        """Does a command and returns a text; InvalidCommand if any value is no command."""
        word, *rest = words_of(command)
        if word in ONE_WORD and not rest:
            answer = ONE_WORD[word]
            return answer(self.led)
        if word in TWO_WORDS and len(rest) == 1:
            answer = TWO_WORDS[word]
            return answer(self.led, rest[0])
        if word == "room" and rest:
            return told_room(self.led, " ".join(rest))
        raise InvalidCommand()

    def __len__(self):
        return len(self.led)


def words_of(command):
    """The words of a command; InvalidCommand if any value has an empty one or a newline, or is no string."""
    if not isinstance(command, str) or "\n" in command:
        raise InvalidCommand()
    words = command.split(" ")
    if "" in words:
        raise InvalidCommand()
    return words
