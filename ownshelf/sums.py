"""Sums over stretches of a make, and how far its first things go until their sum passes a test."""

from ownshelf.errors import NoSum
from ownshelf.nodes import AHEAD, MIDDLE, BEHIND, TURNED
from ownshelf.nodes import back, seen, size, total
from ownshelf.rows import check_stretch


def check_adding(wood):
    if wood.adding is None:
        raise NoSum("the wood has no way of adding")


def total_part(wood, make, start, end):
    check_stretch(make, start, end)
    check_adding(wood)
    found = []
    gather_sums(make, False, start, end, found)
    return sum_of_all(wood.adding, found)


def sum_of_all(add, sums):
    if len(sums) == 0:
        return None
    result = sums[0]
    for one in sums[1:]:
        result = add(result, one)
    return result


def sum_seen(make, turned):
    if turned:
        return back(make)
    return total(make)


def gather_sums(make, turned, start, end, found):
    # A make that lies within the stretch as a whole gives its own sum: so but few are added.
    if start >= end:
        return
    if start == 0 and end == size(make):
        found.append(sum_seen(make, turned))
        return
    row = seen(make, turned)
    middle = size(row[AHEAD])
    gather_sums(row[AHEAD], row[TURNED], start, min(end, middle), found)
    if start <= middle < end:
        found.append(row[MIDDLE])
    gather_sums(row[BEHIND], row[TURNED], max(start - middle - 1, 0), end - middle - 1, found)


def far(wood, make, test):
    check_adding(wood)
    # The test is asked of sums of first things alone: of its answers on others nothing is known.
    least = 1
    most = size(make) + 1
    while least < most:
        middle = (least + most) // 2
        if test(total_part(wood, make, 0, middle)):
            most = middle
        else:
            least = middle + 1
    if least > size(make):
        return None
    return least
