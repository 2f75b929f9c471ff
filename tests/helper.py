"""What the tests share: makes of many shapes, and what the document says of them, told the slow way."""

import random
import unittest

from ownshelf.errors import Changed, NoMore, NoPlace, ShelfError, TooMany
from ownshelf.nodes import height, is_right
from ownshelf.rows import turned_part
from ownshelf.wood import Wood

NAMES = ("number", "about", "left", "thing", "right", "size", "height", "total", "back")


def join(one, other):
    return one + other


def first(one, other):
    return one


def last(one, other):
    return other


def chain(one, other):
    # Straight lines (a, b): x -> a x + b, one after the other, not the same both ways.
    return (one[0] * other[0], one[1] * other[0] + other[1])


def letters(count):
    return ["abcdefghijklmnopqrstuvwxyz"[k % 26] for k in range(count)]


def plain_things(make):
    if make is None:
        return []
    row = plain_things(make[2]) + [make[3]] + plain_things(make[4])
    return row[::-1] if make[1] else row


def plain_height(make):
    if make is None:
        return 0
    return 1 + max(plain_height(make[2]), plain_height(make[4]))


def plain_sum(add, things):
    if add is None or not things:
        return None
    result = things[0]
    for thing in things[1:]:
        result = add(result, thing)
    return result


def plainly_right(make, add=None):
    if make is None:
        return True
    number, about, left, thing, right, size, height, total, back = make
    things = plain_things(make)
    return (
        plainly_right(left, add)
        and plainly_right(right, add)
        and abs(plain_height(left) - plain_height(right)) <= 1
        and size == len(things)
        and height == plain_height(make)
        and total == plain_sum(add, things)
        and back == plain_sum(add, things[::-1])
    )


def built(wood, things):
    if not things:
        return None
    middle = len(things) // 2
    left = built(wood, things[:middle])
    right = built(wood, things[middle + 1:])
    return wood.node(left, things[middle], right)


def lean(wood, levels, next_thing=lambda: 1):
    """The make of that height with the fewest things: at each node left is higher by one."""
    if levels <= 0:
        return None
    left = lean(wood, levels - 1, next_thing)
    right = lean(wood, levels - 2, next_thing)
    return wood.node(left, next_thing(), right)


def mixed(wood, things, seed):
    """A make with makes turned about at many places within."""
    chance = random.Random(seed)

    def grown(row):
        if not row:
            return None
        middle = len(row) // 2
        left = grown(row[:middle])
        right = grown(row[middle + 1:])
        make = wood.node(left, row[middle], right)
        for turn in range(chance.randrange(3)):
            make = wood.turned(make)
        return make

    return grown(things)


def nodes_with_paths(make, path=()):
    if make is None:
        return []
    found = [(path, make)]
    found += nodes_with_paths(make[2], path + (2,))
    found += nodes_with_paths(make[4], path + (4,))
    return found


def changed(make, **values):
    row = list(make)
    for name, value in values.items():
        row[NAMES.index(name)] = value
    return tuple(row)


def replaced(make, path, inner):
    """The make with another one at the path, and nothing else changed above it."""
    if not path:
        return inner
    row = list(make)
    row[path[0]] = replaced(make[path[0]], path[1:], inner)
    return tuple(row)


def lean_mixed(wood, levels, chance, next_thing=lambda: 1):
    """A make of that height with the fewest things, the higher side and what stands turned told by chance."""
    if levels <= 0:
        return None
    high = lean_mixed(wood, levels - 1, chance, next_thing)
    low = lean_mixed(wood, levels - 2, chance, next_thing)
    left, right = (high, low) if chance.randrange(2) else (low, high)
    make = wood.node(left, next_thing(), right)
    return wood.turned(make) if chance.randrange(2) else make


def with_turned_stretches(wood, make, chance, turns=4):
    for turn in range(turns):
        start, end = sorted(chance.randrange(len(plain_things(make)) + 1) for side in range(2))
        make = turned_part(wood, make, start, end)
    return make


def zoo(wood, things, seed=0):
    """Makes of these things, in their order or in another one: plain, turned about, and turned within."""
    chance = random.Random(seed)
    plain = built(wood, things)
    within = with_turned_stretches(wood, plain, chance)
    return [plain, wood.turned(plain), within, wood.turned(within), mixed(wood, things, seed)]


def numbers_of(*makes):
    """The numbers of all nodes of the makes, at whatever depth."""
    found = set()
    waiting = list(makes)
    while waiting:
        make = waiting.pop()
        if make is not None:
            found.add(make[0])
            waiting += [make[2], make[4]]
    return found


def ways():
    """Pairs of a way of adding and a function of a count that tells as many things for it."""
    return [
        (None, lambda k: letters(k)),
        (None, lambda k: list(range(-3, k - 3))),
        (join, lambda k: letters(k)),
        (join, lambda k: [7 * j - 11 for j in range(k)]),
        (join, lambda k: [10 ** 59 + j for j in range(k)]),
        (max, lambda k: [(5 * j) % 13 for j in range(k)]),
        (last, lambda k: letters(k)),
        (chain, lambda k: [(j % 3 - 1, j) for j in range(k)]),
        (join, lambda k: [(j, "t") for j in range(k)]),
    ]


def samples():
    """Pairs of a way of adding and makes of it, from none to some dozens of things."""
    found = []
    for add, row in ways():
        for count in (0, 1, 2, 3, 4, 6, 7, 11, 20):
            wood = Wood(add)
            make = built(wood, row(count))
            found += [(add, wood, make), (add, wood, wood.turned(make))]
            found += [(add, wood, mixed(wood, row(count), seed)) for seed in range(3)]
    return found


class PlainShelf:
    """A shelf told the slow way: a list, which moves the marks of its walkers at each deed."""

    def __init__(self, things=()):
        self.row = list(things)
        self.done = []
        self.walkers = []

    def hold(self, row, *deed):
        if len(row) > 2000:
            raise TooMany
        self.row = row
        self.done.append(deed)
        for walker in self.walkers:
            walker.meet(deed)

    def need(self, truth):
        if not truth:
            raise NoPlace

    def put(self, place, thing):
        self.need(0 <= place <= len(self.row))
        self.hold(self.row[:place] + [thing] + self.row[place:], "put", place)

    def out(self, place):
        self.need(0 <= place < len(self.row))
        thing = self.row[place]
        self.hold(self.row[:place] + self.row[place + 1:], "out", place)
        return thing

    def swap(self, place, thing):
        self.need(0 <= place < len(self.row))
        self.hold(self.row[:place] + [thing] + self.row[place + 1:], "swap", place)

    def turned(self, start, end):
        self.need(0 <= start <= end <= len(self.row))
        self.hold(self.row[:start] + self.row[start:end][::-1] + self.row[end:], "turned", start, end)

    def laid(self, other):
        self.hold(self.row + other.row, "laid", len(other.row))

    def cut(self, place):
        self.need(0 <= place <= len(self.row))
        behind = PlainShelf(self.row[place:])
        self.hold(self.row[:place], "cut", place)
        return behind

    def back(self, row):
        self.hold(list(row), "back", len(row))


class PlainWalker:
    """A walker told the slow way; as it stands, its mark is moved by the shelf at the time of each deed."""

    def __init__(self, shelf, way):
        self.shelf = shelf
        self.way = way
        self.stood = list(shelf.row)
        self.mark = 0
        self.first_deed = None
        shelf.walkers.append(self)

    def meet(self, deed):
        if self.first_deed is None:
            self.first_deed = deed
        if self.way == "stands":
            self.mark = self.moved(*deed)

    def moved(self, name, place, end=None):
        mark = self.mark
        if name == "turned":
            return end if mark in range(place + 1, end) else mark
        if name == "back":
            return len(self.shelf.row)
        if mark <= place or name in ("swap", "laid"):
            return mark
        return {"put": mark + 1, "out": mark - 1, "cut": len(self.shelf.row)}[name]

    def left(self):
        if self.way == "strict" and self.first_deed is not None:
            raise Changed(self.first_deed)
        row = self.shelf.row if self.way == "stands" else self.stood
        return row[self.mark:]

    def more(self):
        return self.left() != []

    def step(self):
        left = self.left()
        if not left:
            raise NoMore
        self.mark += 1
        return left[0]


def told_or_refused(ask):
    try:
        return ("told", ask())
    except ShelfError as error:
        return ("refused", error.__class__, getattr(error, "deed", None))


class Case(unittest.TestCase):
    def assert_refused(self, wood, error, deed, *asked):
        """Refused with just this error, and no node is made."""
        before = wood.made()
        with self.assertRaises(error) as caught:
            deed(*asked)
        self.assertIs(caught.exception.__class__, error)
        self.assertEqual(wood.made(), before)

    def assert_make(self, wood, make, things):
        """A make of just these things, and a right one."""
        self.assertEqual(plain_things(make), things)
        if len(things) <= 40:
            self.assertTrue(plainly_right(make, wood.adding), make)
        self.assertIs(is_right(make, wood.adding), True)
        self.assertTrue(all(0 <= number < wood.made() for number in numbers_of(make)))

    def assert_few_new(self, most, told, handed):
        """Of the nodes of what is told at most so many times (h + 2) are new ones."""
        greatest = max(height(make) for make in handed)
        new = numbers_of(*told) - numbers_of(*handed)
        self.assertLessEqual(len(new), most * (greatest + 2))

    def assert_alike(self, mine, plain):
        """Both tell the same, or both refuse with the same error (and the same deed)."""
        told = [told_or_refused(ask) for ask in (mine, plain)]
        self.assertEqual(told[0], told[1])
        return told[0]
