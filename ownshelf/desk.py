"""The desk: shelves, makes and walkers by names, told what to do by rows of words.

Each row has a reader for each word behind its first one, which tells the value that the word stands for or refuses,
and a doing, which takes the values read and tells the answer.
"""

from ownshelf.errors import Changed, NoMore, NoName, NoRow
from ownshelf.shelves import Shelf
from ownshelf.sums import total_part
from ownshelf.unlike import first_unlike
from ownshelf.walkers import AsItStands, AsItStood, Strict
from ownshelf.wood import Wood
from ownshelf.words import check_way, check_word, number_of, words_of

DONE = "ok"
NOTHING = "-"


def found(kept, name):
    # By a word that is no name nothing ever stands, so both are refused here alike.
    if name not in kept:
        raise NoName("nothing stands by this name")
    return kept[name]


def read_shelf(desk, word):
    return found(desk.shelves, word)


def read_make(desk, word):
    return found(desk.makes, word)


def read_walker(desk, word):
    return found(desk.walkers, word)


def read_word(desk, word):
    # A thing, or a name for what is new, whether or not something stands by it already.
    check_word(word)
    return word


def read_place(desk, word):
    return number_of(word)


def read_way(desk, word):
    check_way(word)
    return word


def do_shelf(desk, told):
    desk.shelves[told[0]] = Shelf(desk.wood, told[1:])
    return DONE


def do_put(desk, told):
    told[0].put(told[1], told[2])
    return DONE


def do_swap(desk, told):
    told[0].swap(told[1], told[2])
    return DONE


def do_turn(desk, told):
    told[0].turned(told[1], told[2])
    return DONE


def do_lay(desk, told):
    told[0].laid(told[1])
    return DONE


def do_cut(desk, told):
    desk.shelves[told[2]] = told[0].cut(told[1])
    return DONE


def do_keep(desk, told):
    desk.makes[told[1]] = told[0].make()
    return DONE


def do_back(desk, told):
    told[0].back(told[1])
    return DONE


def do_walk(desk, told):
    desk.walkers[told[2]] = walker_of(told[0], told[1])
    return DONE


def walker_of(shelf, way):
    if way == "stood":
        return AsItStood(shelf)
    if way == "stands":
        return AsItStands(shelf)
    return Strict(shelf)


def do_out(desk, told):
    return told[0].out(told[1])


def do_show(desk, told):
    things = told[0].things()
    if len(things) == 0:
        return NOTHING
    return " ".join(things)


def do_sum(desk, told):
    return answer_of(total_part(desk.wood, told[0].make(), told[1], told[2]))


def do_unlike(desk, told):
    return answer_of(first_unlike(told[0].make(), told[1].make(), lambda one, other: one == other))


def do_step(desk, told):
    try:
        return told[0].step()
    except NoMore:
        return NOTHING
    except Changed as e:
        return " ".join(["changed"] + [str(part) for part in e.deed])


def answer_of(value):
    if value is None:
        return NOTHING
    return str(value)


READERS = 0
DOING = 1
ROWS = {
    "shelf": ((read_word,), do_shelf),
    "put": ((read_shelf, read_place, read_word), do_put),
    "swap": ((read_shelf, read_place, read_word), do_swap),
    "turn": ((read_shelf, read_place, read_place), do_turn),
    "lay": ((read_shelf, read_shelf), do_lay),
    "cut": ((read_shelf, read_place, read_word), do_cut),
    "keep": ((read_shelf, read_word), do_keep),
    "back": ((read_shelf, read_make), do_back),
    "walk": ((read_shelf, read_way, read_word), do_walk),
    "out": ((read_shelf, read_place), do_out),
    "show": ((read_shelf,), do_show),
    "sum": ((read_shelf, read_place, read_place), do_sum),
    "unlike": ((read_shelf, read_shelf), do_unlike),
    "step": ((read_walker,), do_step),
}


def readers_of(words):
    if words[0] not in ROWS:
        raise NoRow("there is no such row")
    readers = ROWS[words[0]][READERS]
    # A row of a new shelf alone may have any number of things behind what it must have.
    if words[0] == "shelf":
        readers = readers + (read_word,) * (len(words) - 2)
    if len(words) != len(readers) + 1:
        raise NoRow("such a row has another number of words")
    return readers


class Desk:
    def __init__(self):
        self.wood = Wood(lambda one, other: one + other)
        self.shelves = {}
        self.makes = {}
        self.walkers = {}

    def say(self, row):
        words = words_of(row)
        readers = readers_of(words)
        # All words are read, from the left, ahead of the doing: so what is refused changes nothing.
        told = [pair[0](self, pair[1]) for pair in zip(readers, words[1:])]
        doing = ROWS[words[0]][DOING]
        return doing(self, told)
