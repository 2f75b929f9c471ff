"""Walkers: they go through a shelf step by step, each in its way of meeting what is done to the shelf meanwhile."""

from ownshelf.errors import Changed, NoMore
from ownshelf.nodes import size
from ownshelf.rows import at


def moved(mark, deed):
    # Where the mark stands behind the deed, so that no thing that stayed is told twice.
    name = deed[0]
    if name == "put" and deed[1] < mark:
        return mark + 1
    if name == "out" and deed[1] < mark:
        return mark - 1
    if name == "turned" and deed[1] < mark < deed[2]:
        return deed[2]
    if name == "cut" and deed[1] < mark:
        return deed[1]
    if name == "back":
        return deed[1]
    return mark


class Walker:
    # The ways differ in what they tell for row: the make that is gone through at this time.
    def __init__(self, shelf):
        self.shelf = shelf
        self.stood = shelf.make()
        self.met = len(shelf.deeds())
        self.mark = 0

    def row(self):
        return self.stood

    def new_deeds(self):
        return self.shelf.deeds()[self.met:]

    def more(self):
        # The row first: finding it may move the mark.
        make = self.row()
        return self.mark < size(make)

    def step(self):
        make = self.row()
        if self.mark >= size(make):
            raise NoMore("there is none more")
        thing = at(make, self.mark)
        self.mark = self.mark + 1
        return thing


class AsItStood(Walker):
    pass


class AsItStands(Walker):
    def row(self):
        for deed in self.new_deeds():
            self.mark = moved(self.mark, deed)
            self.met = self.met + 1
        return self.shelf.make()


class Strict(Walker):
    def row(self):
        # The deeds met stay those of the begin: so the first one since then is told each time.
        since = self.new_deeds()
        if len(since) > 0:
            raise Changed(since[0])
        return self.stood
