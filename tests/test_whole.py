"""What is promised over the whole program: nothing is changed by what is done to something else."""

import random
import unittest

from helper import Case, chain, join, letters, plain_things
from ownshelf.desk import Desk
from ownshelf.nodes import parts
from ownshelf.rows import at, cut, laid, make_of, out, part, put, swapped, things_of, turned_part
from ownshelf.sets import added, common, dropped, either, has, less, place_of
from ownshelf.shelves import Shelf
from ownshelf.sums import far, total_part
from ownshelf.tables import keys_of, value_of, values_of, with_value, without
from ownshelf.unlike import first_unlike
from ownshelf.walkers import AsItStands, AsItStood, Strict
from ownshelf.wood import Wood


def up(one, other):
    return one < other


def equal(one, other):
    return one == other


class Kept:
    """Values as they were told or handed in, each beside a copy that nothing can reach."""

    def __init__(self):
        self.pairs = []

    def keep(self, value):
        self.pairs.append((value, repr(value), value[:] if isinstance(value, list) else None))
        return value

    def changed(self):
        return [pair for pair in self.pairs
                if repr(pair[0]) != pair[1] or pair[2] is not None and pair[0] != pair[2]]


def all_that_is_asked(wood, kept, count, seed):
    """Everything that the program can be asked for, once, with what is handed in and told kept."""
    chance = random.Random(seed)
    keep = kept.keep
    row = keep(list(range(1, 2 * count + 1, 2)))
    make, few = keep(make_of(wood, row)), keep(make_of(wood, keep([3, 4])))
    place, end = sorted(chance.randrange(count) for side in range(2))
    told = [put(wood, make, place, 0), out(wood, make, place), swapped(wood, make, place, 0), laid(wood, make, few)]
    told += [part(wood, make, place, end), turned_part(wood, make, place, end), wood.turned(make)]
    told += [added(wood, make, 2 * place, up), dropped(wood, make, 2 * place + 1, up), either(wood, make, few, up)]
    told += [common(wood, make, few, up), less(wood, make, few, up)]
    keep(cut(wood, make, place))
    keep(parts(wood, make))
    for each in told:
        keep(each)
        keep(things_of(each))
    keep((at(make, place), place_of(make, 4, up), has(make, 4, up), first_unlike(make, few, equal)))
    keep((total_part(wood, make, place, end), far(wood, make, lambda total: total > 9)))
    return make, told


class NothingElseChanges(Case):
    def test_makes_and_lists(self):
        kept = Kept()
        wood = Wood(join)
        for seed, count in enumerate((2, 3, 9, 40, 41, 100)):
            all_that_is_asked(wood, kept, count, seed)
        self.assertEqual(kept.changed(), [])

    def test_tables(self):
        kept = Kept()
        wood = Wood()
        table = None
        for turn in range(60):
            table = kept.keep(with_value(wood, table, letters(60)[turn * 7 % 26], (turn, "v"), up))
            kept.keep(keys_of(table))
            kept.keep(values_of(table))
            if turn % 3 == 0:
                kept.keep((value_of(table, keys_of(table)[0], up), without(wood, table, keys_of(table)[-1], up)))
        self.assertEqual(kept.changed(), [])

    def test_shelves_and_walkers_by_what_is_done_to_makes(self):
        kept = Kept()
        wood = Wood(join)
        make, told = all_that_is_asked(wood, kept, 30, 1)
        shelf = Shelf(wood)
        shelf.back(make)
        walkers = [AsItStood(shelf), AsItStands(shelf), Strict(shelf)]
        for place, thing in enumerate(plain_things(make)):
            made = put(wood, shelf.make(), place, 0)
            laid(wood, out(wood, made, 3), told[place % len(told)])
            turned_part(wood, shelf.make(), 0, place)
            self.assertEqual([walker.step() for walker in walkers], [thing] * 3)
        self.assertIs(shelf.make(), make)
        self.assertEqual(kept.changed(), [])

    def test_shelves_by_other_shelves(self):
        kept = Kept()
        wood = Wood(join)
        row = kept.keep(letters(20))
        shelves = [Shelf(wood, row) for turn in range(3)]
        shelves.append(shelves[0].cut(10))
        held = [(shelf.make(), kept.keep(shelf.things()), kept.keep(shelf.deeds())) for shelf in shelves]
        for mine, shelf in enumerate(shelves):
            shelf.laid(shelves[mine - 1])
            shelf.turned(1, 9)
            shelf.out(2)
            shelf.back(shelves[mine - 1].make())
            for other in range(mine + 1, len(shelves)):
                self.assertIs(shelves[other].make(), held[other][0])
                self.assertEqual(shelves[other].things(), held[other][1])
                self.assertEqual(shelves[other].deeds(), held[other][2])
        self.assertEqual(kept.changed(), [])

    def test_makes_lists_and_walkers_by_shelves(self):
        kept = Kept()
        wood = Wood(chain)
        row = kept.keep([(k % 3, k) for k in range(25)])
        shelf, other = Shelf(wood, row), Shelf(wood, row)
        walkers = [way(other) for way in (AsItStood, AsItStands, Strict)]
        for turn in range(25):
            kept.keep(shelf.make())
            kept.keep(shelf.things())
            kept.keep(shelf.deeds())
            shelf.put(turn, (2, 2))
            shelf.swap(0, (1, turn))
            shelf.turned(turn // 2, turn)
            kept.keep(shelf.out(turn))
            shelf.laid(shelf.cut(turn))
            self.assertEqual([walker.step() for walker in walkers], [row[turn]] * 3)
        self.assertEqual(kept.changed(), [])

    def test_what_is_done_to_a_list_afterwards_changes_nothing(self):
        wood = Wood(join)
        row = letters(12)
        make, shelf = make_of(wood, row), Shelf(wood, row)
        walkers = [way(shelf) for way in (AsItStood, AsItStands, Strict)]
        for told in (row, things_of(make), shelf.things(), shelf.deeds()):
            told.clear()
            told.append("z")
        self.assert_make(wood, make, letters(12))
        self.assert_make(wood, shelf.make(), letters(12))
        for thing in letters(12):
            self.assertEqual([walker.step() for walker in walkers], [thing] * 3)

    def test_no_desk_by_another_one(self):
        one, other = Desk(), Desk()
        one.say("shelf a p q")
        one.say("walk a strict w")
        other.say("shelf a x")
        other.say("put a 0 y")
        self.assertEqual([one.say("show a"), one.say("step w"), other.say("show a")], ["p q", "p", "y x"])


if __name__ == "__main__":
    unittest.main()
