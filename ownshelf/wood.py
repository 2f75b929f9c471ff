"""A wood: it makes nodes, numbers them, and knows the way of adding."""

from ownshelf.errors import NoBalance, TooMany
from ownshelf.nodes import ABOUT, LEFT, THING, RIGHT
from ownshelf.nodes import size, height, total, back
from ownshelf.nodes import size_above, height_above, in_balance, sums_above

MOST_THINGS = 2000


def check_room(things):
    if things > MOST_THINGS:
        raise TooMany(f"a make has at most {MOST_THINGS} things, not {things}")


class Wood:
    def __init__(self, add=None):
        self.adding = add
        self.nodes_made = 0

    def made(self):
        return self.nodes_made

    def node(self, left, thing, right):
        things = size_above(left, right)
        check_room(things)
        if not in_balance(left, right):
            raise NoBalance("the heights of left and right differ by more than one")
        measures = (things, height_above(left, right))
        sums = sums_above(self.adding, left, thing, right)
        return self.numbered((False, left, thing, right) + measures + sums)

    def turned(self, make):
        if make is None:
            return None
        row = (make[LEFT], make[THING], make[RIGHT])
        return self.numbered((not make[ABOUT],) + row + (size(make), height(make), back(make), total(make)))

    def numbered(self, rest):
        # Asked last of all, so that what is refused on the way takes no number.
        number = self.nodes_made
        self.nodes_made = number + 1
        return (number,) + rest
