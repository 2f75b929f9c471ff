"""Makes, read: what a node tells of itself, its parts, and whether a make is right.

A make is None, the empty row, or a node, a tuple whose values stand at the places named below.
"""

NUMBER = 0
ABOUT = 1
LEFT = 2
THING = 3
RIGHT = 4
SIZE = 5
HEIGHT = 6
TOTAL = 7
BACK = 8
VALUES_OF_A_NODE = 9

# Where the values stand in what parts and seen tell.
AHEAD = 0
MIDDLE = 1
BEHIND = 2
TURNED = 3


def size(make):
    if make is None:
        return 0
    return make[SIZE]


def height(make):
    if make is None:
        return 0
    return make[HEIGHT]


def total(make):
    if make is None:
        return None
    return make[TOTAL]


def back(make):
    if make is None:
        return None
    return make[BACK]


def parts(wood, make):
    if not make[ABOUT]:
        return (make[LEFT], make[THING], make[RIGHT])
    # One after the other by name: the numbers of the new nodes tell in which order they were made.
    ahead = wood.turned(make[RIGHT])
    behind = wood.turned(make[LEFT])
    return (ahead, make[THING], behind)


def seen(make, turned):
    # The parts of a node for those who only read: no node is made, so it is told instead
    # whether what stands ahead and behind is to be read turned about.
    if make[ABOUT] == turned:
        return (make[LEFT], make[THING], make[RIGHT], False)
    return (make[RIGHT], make[THING], make[LEFT], True)


def size_above(left, right):
    return size(left) + 1 + size(right)


def height_above(left, right):
    return 1 + max(height(left), height(right))


def in_balance(left, right):
    return abs(height(left) - height(right)) <= 1


def sums_above(add, left, thing, right):
    # The sum from left to right, and the sum from right to left.
    if add is None:
        return (None, None)
    return (onward_sum(add, left, thing, right), backward_sum(add, left, thing, right))


def onward_sum(add, left, thing, right):
    # The empty row is told by the make, not by its sum: None has no sum that could be added.
    result = thing
    if left is not None:
        result = add(total(left), result)
    if right is not None:
        result = add(result, total(right))
    return result


def backward_sum(add, left, thing, right):
    result = thing
    if right is not None:
        result = add(back(right), result)
    if left is not None:
        result = add(result, back(left))
    return result


def is_right(make, add=None):
    if make is None:
        return True
    if not has_form(make):
        return False
    # Below first: only sums that are known to be right may be handed to the way of adding.
    if not is_right(make[LEFT], add) or not is_right(make[RIGHT], add):
        return False
    return has_right_measures(make) and has_right_sums(make, add)


def has_form(make):
    if not isinstance(make, tuple) or len(make) != VALUES_OF_A_NODE:
        return False
    if not isinstance(make[ABOUT], bool):
        return False
    return is_whole(make[NUMBER]) and is_whole(make[SIZE]) and is_whole(make[HEIGHT])


def is_whole(value):
    return isinstance(value, int) and not isinstance(value, bool)


def has_right_measures(make):
    left = make[LEFT]
    right = make[RIGHT]
    if not in_balance(left, right):
        return False
    return make[SIZE] == size_above(left, right) and make[HEIGHT] == height_above(left, right)


def has_right_sums(make, add):
    asked = sums_above(add, make[LEFT], make[THING], make[RIGHT])
    if make[ABOUT]:
        return make[TOTAL] == asked[1] and make[BACK] == asked[0]
    return make[TOTAL] == asked[0] and make[BACK] == asked[1]
