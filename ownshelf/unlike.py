"""Where two makes differ."""

from ownshelf.nodes import size
from ownshelf.rows import things_of


def first_unlike(one, other, same):
    # Thing by thing, also where both share nodes: a shared node may stand at unlike places or turned.
    place = 0
    for pair in zip(things_of(one), things_of(other)):
        if not same(pair[0], pair[1]):
            return place
        place = place + 1
    if size(one) == size(other):
        return None
    return place
