"""Sets by an order: makes of things each of which comes before the next one."""

from ownshelf.errors import NoThing
from ownshelf.nodes import AHEAD, MIDDLE, BEHIND, TURNED
from ownshelf.nodes import seen, size
from ownshelf.rows import at, make_of, out, put, things_of


def place_of(make, thing, before):
    return count_before(make, False, thing, before)


def count_before(make, turned, thing, before):
    if make is None:
        return 0
    row = seen(make, turned)
    if before(row[MIDDLE], thing):
        return size(row[AHEAD]) + 1 + count_before(row[BEHIND], row[TURNED], thing, before)
    return count_before(row[AHEAD], row[TURNED], thing, before)


def has(make, thing, before):
    return is_alike_at(make, place_of(make, thing, before), thing, before)


def is_alike_at(make, place, thing, before):
    # The place is the thing's own, so what stands there does not come before the thing.
    return place < size(make) and not before(thing, at(make, place))


def added(wood, make, thing, before):
    place = place_of(make, thing, before)
    if is_alike_at(make, place, thing, before):
        return make
    return put(wood, make, place, thing)


def dropped(wood, make, thing, before):
    return out(wood, make, place_of_alike(make, thing, before))


def place_of_alike(make, thing, before):
    place = place_of(make, thing, before)
    if not is_alike_at(make, place, thing, before):
        raise NoThing("nothing alike is there")
    return place


def either(wood, one, other, before):
    return make_of(wood, merged(things_of(one), things_of(other), before))


def merged(ones, others, before):
    found = []
    reached = 0
    for thing in ones:
        while reached < len(others) and before(others[reached], thing):
            found.append(others[reached])
            reached = reached + 1
        found.append(thing)
        # Of two alike things the first set's stands: the other one is passed by.
        if reached < len(others) and not before(thing, others[reached]):
            reached = reached + 1
    return found + others[reached:]


def common(wood, one, other, before):
    return make_of(wood, [thing for thing in things_of(one) if has(other, thing, before)])


def less(wood, one, other, before):
    return make_of(wood, [thing for thing in things_of(one) if not has(other, thing, before)])
