"""Shelves: each holds a make of a wood, holds another one behind each deed, and keeps which deeds were done."""

from ownshelf.nodes import size
from ownshelf.rows import at, cut, laid, make_of, out, put, swapped, things_of, turned_part


class Shelf:
    def __init__(self, wood, things=None):
        self.wood = wood
        self.held = None
        self.done = []
        if things is not None:
            self.held = make_of(wood, things)

    def make(self):
        return self.held

    def things(self):
        return things_of(self.held)

    def deeds(self):
        # A copy, as the told list is the asker's own.
        return list(self.done)

    def hold(self, make, deed):
        # The one place at which a shelf changes: what is refused is refused ahead of it.
        self.held = make
        self.done.append(deed)

    def put(self, place, thing):
        self.hold(put(self.wood, self.held, place, thing), ("put", place))

    def out(self, place):
        thing = at(self.held, place)
        self.hold(out(self.wood, self.held, place), ("out", place))
        return thing

    def swap(self, place, thing):
        self.hold(swapped(self.wood, self.held, place, thing), ("swap", place))

    def turned(self, start, end):
        self.hold(turned_part(self.wood, self.held, start, end), ("turned", start, end))

    def laid(self, other):
        # The other shelf may be this one: its make is read ahead of the change.
        behind = other.make()
        self.hold(laid(self.wood, self.held, behind), ("laid", size(behind)))

    def cut(self, place):
        halves = cut(self.wood, self.held, place)
        others = Shelf(self.wood)
        others.held = halves[1]
        self.hold(halves[0], ("cut", place))
        return others

    def back(self, make):
        self.hold(make, ("back", size(make)))
