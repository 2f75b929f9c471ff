"""Of the nodes of what is told but few are new ones."""

import random
import unittest

from helper import Case, built, join, lean_mixed, mixed, plain_things, zoo
from ownshelf.nodes import size
from ownshelf.rows import cut, laid, out, put, swapped, turned_part
from ownshelf.sets import added, dropped
from ownshelf.tables import with_value, without
from ownshelf.wood import Wood


def up(one, other):
    return one < other


def counted(wood, levels, seed):
    """A lean make with nodes turned about at many places, whose things stand as 1, 3, 5 .. all the same."""
    shape = lean_mixed(wood, levels, random.Random(seed))
    things = iter(range(1, 2 * size(shape), 2))

    def named(make, turned):
        if make is None:
            return None
        within = make[1] != turned
        first, second = (make[4], make[2]) if within else (make[2], make[4])
        ahead = named(first, within)
        thing = next(things)
        behind = named(second, within)
        sides = (behind, ahead) if within else (ahead, behind)
        told = wood.node(sides[0], thing, sides[1])
        return wood.turned(told) if make[1] else told

    return named(shape, False)


def makes(wood):
    """Sets of whole numbers that stand apart by two, of heights from 0 to 14 and of no thing to two thousand."""
    found = [counted(wood, levels, seed) for levels in range(15) for seed in range(3)]
    for count in (1, 2, 3, 10, 100, 1000, 1023, 1024, 1999, 2000):
        row = list(range(1, 2 * count, 2))
        plain = built(wood, row)
        found += [plain, wood.turned(built(wood, row[::-1])), wood.turned(wood.turned(plain))]
        halved = cut(wood, plain, count // 2)
        turned = wood.turned(built(wood, plain_things(halved[1])[::-1]))
        found.append(laid(wood, halved[0], turned))
    return found


def some_of(places):
    chance = random.Random(len(places))
    if len(places) < 40:
        return list(places)
    return list(places[:3]) + list(places[-3:]) + chance.sample(list(places), 12)


class NewNodes(Case):
    def test_the_makes_here_are_sets(self):
        for make in makes(Wood()):
            self.assertEqual(plain_things(make), list(range(1, 2 * size(make), 2)))

    def test_put(self):
        wood = Wood()
        for make in makes(wood):
            if size(make) < 2000:
                for place in some_of(range(size(make) + 1)):
                    self.assert_few_new(24, [put(wood, make, place, 0)], [make])

    def test_out_and_swapped(self):
        wood = Wood()
        for make in makes(wood):
            for place in some_of(range(size(make))):
                self.assert_few_new(24, [out(wood, make, place)], [make])
                self.assert_few_new(24, [swapped(wood, make, place, 0)], [make])

    def test_cut(self):
        wood = Wood()
        for make in makes(wood):
            for place in some_of(range(size(make) + 1)):
                self.assert_few_new(60, cut(wood, make, place), [make])

    def test_laid(self):
        wood = Wood()
        chance = random.Random(6)
        ready = makes(wood)
        for one in ready:
            for other in chance.sample(ready, 12) + [None, one, built(wood, [0])]:
                if size(one) + size(other) <= 2000:
                    self.assert_few_new(24, [laid(wood, one, other)], [one, other])
                    self.assert_few_new(24, [laid(wood, other, one)], [one, other])

    def test_laid_of_very_unlike_heights(self):
        wood = Wood()
        for seed in range(5):
            for levels in range(5):
                low = lean_mixed(wood, levels, random.Random(seed))
                for high in (lean_mixed(wood, 14, random.Random(seed)), mixed(wood, [1] * 1900, seed)):
                    self.assert_few_new(24, [laid(wood, low, high)], [low, high])
                    self.assert_few_new(24, [laid(wood, high, low)], [low, high])

    def test_with_a_way_of_adding_and_stretches_turned_within(self):
        for count in (5, 50, 1500):
            wood = Wood(join)
            for make in zoo(wood, ["a"] * count, count):
                for place in some_of(range(count)):
                    self.assert_few_new(24, [put(wood, make, place, "b")], [make])
                    self.assert_few_new(24, [out(wood, make, place)], [make])
                    self.assert_few_new(24, [swapped(wood, make, place, "b")], [make])
                    self.assert_few_new(60, cut(wood, make, place), [make])

    def test_deed_upon_deed(self):
        chance = random.Random(8)
        wood = Wood()
        make = built(wood, list(range(1000)))
        for turn in range(150):
            start, end = sorted(chance.randrange(1001) for side in range(2))
            make = turned_part(wood, make, start, end)
            told = put(wood, make, start, turn)
            self.assert_few_new(24, [told], [make])
            make = out(wood, told, end)
            self.assert_few_new(24, [make], [told])
            self.assert_few_new(60, cut(wood, make, start), [make])

    def test_added_and_dropped(self):
        wood = Wood()
        for make in makes(wood):
            if size(make) < 2000:
                for place in some_of(range(size(make) + 1)):
                    self.assert_few_new(24, [added(wood, make, 2 * place, up)], [make])
            for place in some_of(range(size(make))):
                self.assert_few_new(0, [added(wood, make, 2 * place + 1, up)], [make])
                self.assert_few_new(24, [dropped(wood, make, 2 * place + 1, up)], [make])

    def test_values_given_and_keys_taken_out(self):
        wood = Wood()
        for count in (0, 1, 2, 5, 30, 500, 1999):
            pairs = [(key, "v") for key in range(1, 2 * count, 2)]
            for table in (built(wood, pairs), wood.turned(built(wood, pairs[::-1]))):
                for place in some_of(range(count + 1)):
                    self.assert_few_new(24, [with_value(wood, table, 2 * place, "w", up)], [table])
                for place in some_of(range(count)):
                    self.assert_few_new(24, [with_value(wood, table, 2 * place + 1, "w", up)], [table])
                    self.assert_few_new(24, [without(wood, table, 2 * place + 1, up)], [table])


if __name__ == "__main__":
    unittest.main()
