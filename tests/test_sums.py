import copy
import random
import unittest

from helper import Case, built, chain, first, join, last, lean_mixed, letters, plain_sum, plain_things, ways, zoo
from ownshelf.errors import NoPlace, NoSum
from ownshelf.sums import far, total_part
from ownshelf.wood import Wood


def adding_makes():
    for add, row in ways() + [(first, letters), (min, lambda k: [3 * j % 7 for j in range(k)])]:
        if add is not None:
            for count in (0, 1, 2, 3, 6, 11, 17):
                wood = Wood(add)
                for make in zoo(wood, row(count), count):
                    yield wood, make, plain_things(make)


class TotalPart(Case):
    def test_every_stretch(self):
        for wood, make, things in adding_makes():
            made = wood.made()
            for end in range(len(things) + 1):
                for start in range(end + 1):
                    told = total_part(wood, make, start, end)
                    self.assertEqual(told, plain_sum(wood.adding, things[start:end]))
            self.assertEqual(wood.made(), made)

    def test_every_stretch_of_lean_makes_turned_within(self):
        for seed in range(12):
            chance = random.Random(seed)
            for add, pick in ((join, lambda: chance.choice("abcdef")),
                              (chain, lambda: (chance.randrange(-2, 3), chance.randrange(5)))):
                wood = Wood(add)
                make = lean_mixed(wood, 2 + seed % 5, chance, pick)
                things = plain_things(make)
                for end in range(len(things) + 1):
                    for start in range(end + 1):
                        told = total_part(wood, make, start, end)
                        self.assertEqual(told, plain_sum(add, things[start:end]))

    def test_of_no_things_it_is_none(self):
        for add in (join, last, max):
            wood = Wood(add)
            for make in zoo(wood, list(range(9)), 1):
                for place in range(10):
                    self.assertIsNone(total_part(wood, make, place, place))
            self.assertIsNone(total_part(wood, None, 0, 0))

    def test_sums_that_count_as_nothing(self):
        for add, things in ((join, [0, 5, -5, 0]), (join, ["", "a", "", ""]), (last, [3, 0, 4, 0]), (max, [0, 0, -1])):
            wood = Wood(add)
            for make in zoo(wood, things, 4):
                row = plain_things(make)
                for end in range(len(row) + 1):
                    for start in range(end):
                        told = total_part(wood, make, start, end)
                        self.assertEqual(told, plain_sum(add, row[start:end]))
                        self.assertIsNotNone(told)

    def test_the_sum_of_one_thing_is_the_thing_and_nothing_is_added(self):
        def never(one, other):
            raise AssertionError("asked")

        wood = Wood(never)
        self.assertEqual(total_part(wood, wood.node(None, 5, None), 0, 1), 5)

    def test_of_great_makes(self):
        chance = random.Random(2)
        for count in (1000, 2000):
            for add, row in ((join, ["abcdefgh"[:1 + k % 8] for k in range(count)]), (join, list(range(count))),
                             (chain, [(1, k) for k in range(count)]), (last, list(range(count)))):
                wood = Wood(add)
                for make in zoo(wood, row, 7):
                    things = plain_things(make)
                    for start, end in [(0, count), (1, count), (0, count - 1)] + [
                        sorted(chance.randrange(count + 1) for side in range(2)) for turn in range(4)
                    ]:
                        self.assertEqual(total_part(wood, make, start, end), plain_sum(add, things[start:end]))

    def test_but_few_sums_are_added(self):
        asked = []

        def add(one, other):
            asked.append(True)
            return one + other

        wood = Wood(add)
        make = built(wood, [1] * 2000)
        asked.clear()
        self.assertEqual(total_part(wood, make, 1, 1999), 1998)
        self.assertLess(len(asked), 60)


class RefusedSums(Case):
    WRONG = ((-1, 0), (-1, -1), (0, -1), (1, 0), (0, 10 ** 5000), (-10 ** 5000, 0))

    def test_no_place(self):
        for add in (None, join):
            for count in (0, 1, 2, 9, 2000):
                wood = Wood(add)
                for make in zoo(wood, letters(count), 2):
                    for start, end in self.WRONG + ((0, count + 1), (count, count + 1), (count + 1, count + 1),
                                                    (count, count - 1), (-1, count + 1)):
                        self.assert_refused(wood, NoPlace, total_part, wood, make, start, end)

    def test_no_sum(self):
        for count in (0, 1, 2, 9, 2000):
            wood = Wood()
            for make in zoo(wood, letters(count), 2):
                for start, end in ((0, 0), (0, count), (count, count), (count // 2, count)):
                    self.assert_refused(wood, NoSum, total_part, wood, make, start, end)
                self.assert_refused(wood, NoSum, far, wood, make, lambda one: True)
                self.assert_refused(wood, NoSum, far, wood, make, lambda one: False)

    def test_a_refused_far_does_not_ask_the_test(self):
        def never(one):
            raise AssertionError("asked")

        wood = Wood()
        self.assert_refused(wood, NoSum, far, wood, None, never)
        self.assert_refused(wood, NoSum, far, wood, built(wood, [1, 2]), never)


class Far(Case):
    def test_each_number_of_first_things(self):
        for count in (0, 1, 2, 3, 7, 20, 33):
            wood = Wood(join)
            for make in zoo(wood, letters(count), count):
                made = wood.made()
                for least in range(1, count + 1):
                    self.assertEqual(far(wood, make, lambda one: len(one) >= least), least)
                self.assertIsNone(far(wood, make, lambda one: len(one) > count))
                self.assertIsNone(far(wood, make, lambda one: False))
                self.assertEqual(far(wood, make, lambda one: True), 1 if count else None)
                self.assertEqual(wood.made(), made)

    def test_of_none(self):
        for add in (join, last, max):
            self.assertIsNone(far(Wood(add), None, lambda one: True))
            self.assertIsNone(far(Wood(add), None, lambda one: False))

    def test_the_test_is_asked_of_sums_of_first_things_alone(self):
        for seed in range(12):
            chance = random.Random(seed)
            wood = Wood(join)
            make = lean_mixed(wood, 1 + seed % 7, chance, lambda: chance.choice("abcdefgh"))
            word = "".join(plain_things(make))
            for least in range(1, len(word) + 2):
                def test(one):
                    self.assertEqual(one, word[:len(one)])
                    self.assertTrue(one)
                    return len(one) >= least

                self.assertEqual(far(wood, make, test), least if least <= len(word) else None)

    def test_sums_that_count_as_nothing(self):
        wood = Wood(join)
        for make in (built(wood, [0, 0, 0, 2, 0, 3]), wood.turned(built(wood, [3, 0, 2, 0, 0, 0]))):
            self.assertEqual(far(wood, make, lambda one: one >= 0), 1)
            self.assertEqual(far(wood, make, lambda one: one >= 1), 4)
            self.assertEqual(far(wood, make, lambda one: one > 2), 6)
            self.assertIsNone(far(wood, make, lambda one: one > 5))

    def test_beside_a_plain_list(self):
        for add, pick in ((join, lambda chance: chance.randrange(4)), (max, lambda chance: chance.randrange(200))):
            for count in (1, 2, 9, 40, 1000, 2000):
                chance = random.Random(count)
                wood = Wood(add)
                for make in zoo(wood, [pick(chance) for k in range(count)], 5):
                    things = plain_things(make)
                    sums = [things[0]]
                    for thing in things[1:]:
                        sums.append(add(sums[-1], thing))
                    for bound in [0, sums[0], sums[-1], sums[-1] + 1, sums[count // 2], sums[count // 3] + 1]:
                        least = [place + 1 for place, one in enumerate(sums) if one >= bound]
                        told = far(wood, make, lambda one: one >= bound)
                        self.assertEqual(told, least[0] if least else None)

    def test_a_way_of_adding_that_is_not_the_same_both_ways(self):
        for count in (1, 2, 3, 10, 60):
            wood = Wood(join)
            for make in zoo(wood, letters(count), count):
                word = "".join(plain_things(make))
                for sign in "abcmz":
                    place = word.find(sign)
                    told = far(wood, make, lambda one: sign in one)
                    self.assertEqual(told, None if place < 0 else place + 1)

    def test_makes_handed_in_stay_as_they_are(self):
        wood = Wood(join)
        for make in zoo(wood, letters(20), 3):
            kept = copy.deepcopy(make)
            total_part(wood, make, 3, 17)
            far(wood, make, lambda one: len(one) > 11)
            self.assertEqual(make, kept)


if __name__ == "__main__":
    unittest.main()
