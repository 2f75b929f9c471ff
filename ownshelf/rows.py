"""Rows by places: what is done to a make, and what is read of it.

The functions that the document names check what is asked before any node is made,
as what is refused makes none; the others take it for checked.
"""

from ownshelf.balance import balanced, joined
from ownshelf.errors import NoPlace
from ownshelf.nodes import AHEAD, MIDDLE, BEHIND, TURNED
from ownshelf.nodes import parts, seen, size
from ownshelf.wood import check_room


def check_place(place, end):
    # No number is shown here: Python refuses to write out one of very many figures.
    if not 0 <= place < end:
        raise NoPlace("there is no such place")


def check_stretch(make, start, end):
    if not 0 <= start <= end <= size(make):
        raise NoPlace("there is no such stretch")


def make_of(wood, things):
    check_room(len(things))
    return built(wood, things, 0, len(things))


def built(wood, things, start, end):
    if start == end:
        return None
    middle = (start + end) // 2
    left = built(wood, things, start, middle)
    right = built(wood, things, middle + 1, end)
    return wood.node(left, things[middle], right)


def things_of(make):
    found = []
    gather(make, False, found)
    return found


def gather(make, turned, found):
    if make is None:
        return
    row = seen(make, turned)
    gather(row[AHEAD], row[TURNED], found)
    found.append(row[MIDDLE])
    gather(row[BEHIND], row[TURNED], found)


def at(make, place):
    check_place(place, size(make))
    return thing_at(make, False, place)


def thing_at(make, turned, place):
    row = seen(make, turned)
    middle = size(row[AHEAD])
    if place < middle:
        return thing_at(row[AHEAD], row[TURNED], place)
    if place > middle:
        return thing_at(row[BEHIND], row[TURNED], place - middle - 1)
    return row[MIDDLE]


def put(wood, make, place, thing):
    check_place(place, size(make) + 1)
    check_room(size(make) + 1)
    return put_in(wood, make, place, thing)


def put_in(wood, make, place, thing):
    if make is None:
        return wood.node(None, thing, None)
    row = parts(wood, make)
    middle = size(row[AHEAD])
    if place <= middle:
        return balanced(wood, put_in(wood, row[AHEAD], place, thing), row[MIDDLE], row[BEHIND])
    return balanced(wood, row[AHEAD], row[MIDDLE], put_in(wood, row[BEHIND], place - middle - 1, thing))


def out(wood, make, place):
    check_place(place, size(make))
    return taken_out(wood, make, place)


def taken_out(wood, make, place):
    row = parts(wood, make)
    middle = size(row[AHEAD])
    if place < middle:
        return balanced(wood, taken_out(wood, row[AHEAD], place), row[MIDDLE], row[BEHIND])
    if place > middle:
        return balanced(wood, row[AHEAD], row[MIDDLE], taken_out(wood, row[BEHIND], place - middle - 1))
    return laid_together(wood, row[AHEAD], row[BEHIND])


def swapped(wood, make, place, thing):
    check_place(place, size(make))
    return given(wood, make, place, thing)


def given(wood, make, place, thing):
    row = parts(wood, make)
    middle = size(row[AHEAD])
    if place < middle:
        return wood.node(given(wood, row[AHEAD], place, thing), row[MIDDLE], row[BEHIND])
    if place > middle:
        return wood.node(row[AHEAD], row[MIDDLE], given(wood, row[BEHIND], place - middle - 1, thing))
    return wood.node(row[AHEAD], thing, row[BEHIND])


def laid(wood, one, other):
    check_room(size(one) + size(other))
    return laid_together(wood, one, other)


def laid_together(wood, one, other):
    if one is None:
        return other
    if other is None:
        return one
    return joined(wood, one, thing_at(other, False, 0), taken_out(wood, other, 0))


def cut(wood, make, place):
    check_place(place, size(make) + 1)
    return cut_ahead(wood, make, place)


def cut_ahead(wood, make, place):
    if place == 0:
        return (None, make)
    if place == size(make):
        return (make, None)
    row = parts(wood, make)
    middle = size(row[AHEAD])
    if place <= middle:
        halves = cut_ahead(wood, row[AHEAD], place)
        return (halves[0], joined(wood, halves[1], row[MIDDLE], row[BEHIND]))
    halves = cut_ahead(wood, row[BEHIND], place - middle - 1)
    return (joined(wood, row[AHEAD], row[MIDDLE], halves[0]), halves[1])


def part(wood, make, start, end):
    check_stretch(make, start, end)
    return cut_ahead(wood, cut_ahead(wood, make, end)[0], start)[1]


def turned_part(wood, make, start, end):
    check_stretch(make, start, end)
    behind = cut_ahead(wood, make, end)
    ahead = cut_ahead(wood, behind[0], start)
    begin = laid_together(wood, ahead[0], wood.turned(ahead[1]))
    return laid_together(wood, begin, behind[1])
