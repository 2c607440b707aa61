"""Led rooms: rooms that people leave one by one, and in which it can be taken back that they left."""

from leavelots.basics import bits_of
from leavelots.errors import Refused
from leavelots.lots import lots_after, may
from leavelots.orders import orders_on


class Trial:
    """A block behind which a led room is as it was when the block was entered."""

    def __init__(self, led):
        self.led = led

    def __enter__(self):
        self.room = self.led.room
        self.counts = self.led.counts
        self.gone = self.led.gone
        self.may = self.led.may
        self.left = self.led.left
        self.deeds = self.led.deeds
        return self.led

    def __exit__(self, kind, value, trace):
        self.led.room = self.room
        self.led.counts = self.counts
        self.led.gone = self.gone
        self.led.may = self.may
        self.led.left = self.left
        self.led.deeds = self.deeds


class Led:
    """A room that people leave."""

    def __init__(self, room):
        self.deeds = ()
        self.stand(room, counts_in(room), ())

    def stand(self, room, counts, gone):
        """From now on it is this room, with its numbers of orders, and these are gone."""
        self.room = room
        self.counts = counts
        self.gone = gone
        self.may = may(room, gone)
        self.left = counts[bits_of(room.names, gone)]

    def change(self, room, counts, gone):
        """The same as a deed that can be taken back."""
        # A new tuple each time: a trial keeps the one that it found.
        self.deeds = (*self.deeds, (self.room, self.counts, self.gone))
        self.stand(room, counts, gone)

    def leave(self, name):
        """This one leaves; Refused if any value is nobody who may leave now."""
        self.several([name])

    def several(self, names):
        """These leave one behind the other; none of them does if one of them may not."""
        gone = self.gone
        for name in names:
            if name not in may(self.room, gone):
                raise Refused(name)
            gone = (*gone, name)
        if gone != self.gone:
            self.change(self.room, self.counts, gone)

    def follow(self, room):
        """All begins anew in another room."""
        self.change(room, counts_in(room), ())

    def undo(self):
        """Takes back the last deed; whether there was one."""
        if not self.deeds:
            return False
        room, counts, gone = self.deeds[-1]
        self.deeds = self.deeds[:-1]
        self.stand(room, counts, gone)
        return True

    def trial(self):
        """A new context manager: behind its block all is as it was when the block was entered."""
        return Trial(self)

    def within(self, work):
        """What a function returns for this led room, behind which all is as it was."""
        with self.trial() as led:
            return work(led)

    def __len__(self):
        return len(self.deeds)


def counts_in(room):
    """For each lot that can be gone in a room, the number of orders from there on."""
    return orders_on(lots_after(room))
