"""Tables by an order: makes of tuples (key, value) whose keys each come before the next one."""

from ownshelf.rows import at, put, swapped, things_of
from ownshelf.sets import dropped, is_alike_at, place_of, place_of_alike

KEY = 0
VALUE = 1


def by_key(before):
    return lambda one, other: before(one[KEY], other[KEY])


def sought(key):
    # Stands for a key where an order is asked, never in a make.
    return (key, None)


def value_of(make, key, before):
    return at(make, place_of_alike(make, sought(key), by_key(before)))[VALUE]


def with_value(wood, make, key, value, before):
    pair = (key, value)
    order = by_key(before)
    place = place_of(make, pair, order)
    if is_alike_at(make, place, pair, order):
        return swapped(wood, make, place, pair)
    return put(wood, make, place, pair)


def without(wood, make, key, before):
    return dropped(wood, make, sought(key), by_key(before))


def keys_of(make):
    return [pair[KEY] for pair in things_of(make)]


def values_of(make):
    return [pair[VALUE] for pair in things_of(make)]
