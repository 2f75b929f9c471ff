"""Two makes and a thing between them brought together as one right make, whatever their heights."""

from ownshelf.nodes import AHEAD, MIDDLE, BEHIND
from ownshelf.nodes import height, in_balance, parts


def joined(wood, left, thing, right):
    # Goes down the higher one to where the lower one fits in: new nodes stand on this way alone.
    if in_balance(left, right):
        return wood.node(left, thing, right)
    if height(left) > height(right):
        row = parts(wood, left)
        return balanced(wood, row[AHEAD], row[MIDDLE], joined(wood, row[BEHIND], thing, right))
    row = parts(wood, right)
    return balanced(wood, joined(wood, left, thing, row[AHEAD]), row[MIDDLE], row[BEHIND])


def balanced(wood, left, thing, right):
    # Only for heights that differ by at most two, as they do behind one deed below.
    if in_balance(left, right):
        return wood.node(left, thing, right)
    if height(left) > height(right):
        return lifted_left(wood, left, thing, right)
    return lifted_right(wood, left, thing, right)


def lifted_left(wood, left, thing, right):
    outer = parts(wood, left)
    if height(outer[AHEAD]) >= height(outer[BEHIND]):
        return wood.node(outer[AHEAD], outer[MIDDLE], wood.node(outer[BEHIND], thing, right))
    inner = parts(wood, outer[BEHIND])
    ahead = wood.node(outer[AHEAD], outer[MIDDLE], inner[AHEAD])
    behind = wood.node(inner[BEHIND], thing, right)
    return wood.node(ahead, inner[MIDDLE], behind)


def lifted_right(wood, left, thing, right):
    outer = parts(wood, right)
    if height(outer[BEHIND]) >= height(outer[AHEAD]):
        return wood.node(wood.node(left, thing, outer[AHEAD]), outer[MIDDLE], outer[BEHIND])
    inner = parts(wood, outer[AHEAD])
    ahead = wood.node(left, thing, inner[AHEAD])
    behind = wood.node(inner[BEHIND], outer[MIDDLE], outer[BEHIND])
    return wood.node(ahead, inner[MIDDLE], behind)
