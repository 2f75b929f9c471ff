import copy
import random
import unittest

from helper import (
    Case, built, chain, join, last, lean_mixed, letters, mixed, numbers_of, plain_things, ways,
    with_turned_stretches, zoo,
)
from ownshelf.errors import NoPlace, TooMany
from ownshelf.nodes import size
from ownshelf.rows import at, cut, laid, make_of, out, part, put, swapped, things_of, turned_part
from ownshelf.wood import Wood

COUNTS = (0, 1, 2, 3, 5, 8, 13)
GREAT = (1000, 1999, 2000)
GREAT_WAYS = ((None, lambda k: list(range(k))), (join, letters), (last, letters))


def small_makes():
    for add, row in ways():
        for count in COUNTS:
            wood = Wood(add)
            for make in zoo(wood, row(count), count):
                yield wood, make, plain_things(make), row(count + 1)[-1]


def great_makes():
    for add, row in GREAT_WAYS:
        for count in GREAT:
            wood = Wood(add)
            for make in zoo(wood, row(count), count):
                yield wood, make, plain_things(make), row(5)[-1]


def some_places(count, chance):
    return sorted({0, 1, count // 2, count - 1, count} | {chance.randrange(count + 1) for k in range(4)})


class MakesOfLists(Case):
    def test_of_small_lists(self):
        for add, row in ways():
            for count in range(40):
                wood = Wood(add)
                make = make_of(wood, row(count))
                self.assert_make(wood, make, row(count))
                self.assertEqual(things_of(make), row(count))

    def test_of_no_thing(self):
        for add in (None, join):
            wood = Wood(add)
            self.assertIsNone(make_of(wood, []))
            self.assertEqual(things_of(None), [])
            self.assertEqual(wood.made(), 0)

    def test_of_great_lists(self):
        for add, row in GREAT_WAYS + ((join, lambda k: ["abcdefgh"] * k), (chain, lambda k: [(1, j) for j in range(k)])):
            for count in (999, 1000, 1023, 1024, 1999, 2000):
                wood = Wood(add)
                make = make_of(wood, row(count))
                self.assert_make(wood, make, row(count))
                self.assertEqual(things_of(make), row(count))

    def test_of_too_long_lists(self):
        for add in (None, join):
            for count in (2001, 2002, 5000):
                wood = Wood(add)
                self.assert_refused(wood, TooMany, make_of, wood, ["a"] * count)
                self.assertEqual(make_of(wood, ["a"])[0], 0)

    def test_things_that_are_alike_and_things_that_count_as_nothing(self):
        for things in ([0, 0, 0, 0], ["", "", "a", ""], [5, 5, 5], [0, "", 0]):
            wood = Wood()
            self.assert_make(wood, make_of(wood, things), things)
            self.assertEqual([at(make_of(wood, things), place) for place in range(len(things))], things)

    def test_the_list_handed_in_is_not_changed_and_not_kept(self):
        for count in (0, 1, 7, 2000):
            wood = Wood(join)
            things = letters(count)
            make = make_of(wood, things)
            self.assertEqual(things, letters(count))
            things.append("z")
            things[0] = "y"
            self.assert_make(wood, make, letters(count))
            self.assertEqual(things_of(make), letters(count))


class Reading(Case):
    def test_things_and_the_thing_at_each_place(self):
        for wood, make, things, more in list(small_makes()) + list(great_makes()):
            made = wood.made()
            self.assertEqual(things_of(make), things)
            self.assertEqual([at(make, place) for place in range(len(things))], things)
            self.assertEqual(wood.made(), made)

    def test_of_makes_whose_nodes_are_turned_one_within_another(self):
        for seed in range(60):
            wood = Wood(join)
            supply = iter(letters(1000))
            make = lean_mixed(wood, 1 + seed % 8, random.Random(seed), lambda: next(supply))
            things = plain_things(make)
            self.assertEqual(things_of(make), things)
            self.assertEqual([at(make, place) for place in range(len(things))], things)

    def test_a_told_list_is_the_askers_own(self):
        for wood, make, things, more in small_makes():
            told = things_of(make)
            told.append("z")
            told.reverse()
            again = things_of(make)
            self.assertEqual(again, things)
            again.clear()
            self.assertEqual(things_of(make), things)
            self.assertEqual(told, (things + ["z"])[::-1])
            self.assert_make(wood, make, things)

    def test_a_told_list_stays_as_it_was_told(self):
        wood = Wood(join)
        make = make_of(wood, letters(9))
        told = things_of(make)
        for other in (put(wood, make, 3, "x"), out(wood, make, 3), turned_part(wood, make, 1, 8)):
            things_of(other).clear()
        self.assertEqual(told, letters(9))


class BesideAPlainList(Case):
    def test_put(self):
        for wood, make, things, more in small_makes():
            for place in range(len(things) + 1):
                self.assert_make(wood, put(wood, make, place, more), things[:place] + [more] + things[place:])
            self.assert_make(wood, make, things)

    def test_out(self):
        for wood, make, things, more in small_makes():
            for place in range(len(things)):
                self.assert_make(wood, out(wood, make, place), things[:place] + things[place + 1:])
            self.assert_make(wood, make, things)

    def test_swapped(self):
        for wood, make, things, more in small_makes():
            for place in range(len(things)):
                told = swapped(wood, make, place, more)
                self.assert_make(wood, told, things[:place] + [more] + things[place + 1:])
            self.assert_make(wood, make, things)

    def test_cut(self):
        for wood, make, things, more in small_makes():
            for place in range(len(things) + 1):
                told = cut(wood, make, place)
                self.assertIsInstance(told, tuple)
                self.assertEqual(len(told), 2)
                self.assert_make(wood, told[0], things[:place])
                self.assert_make(wood, told[1], things[place:])
            self.assert_make(wood, make, things)

    def test_part_and_turned_part(self):
        for wood, make, things, more in small_makes():
            for end in range(len(things) + 1):
                for start in range(end + 1):
                    self.assert_make(wood, part(wood, make, start, end), things[start:end])
                    told = turned_part(wood, make, start, end)
                    self.assert_make(wood, told, things[:start] + things[start:end][::-1] + things[end:])
            self.assert_make(wood, make, things)

    def test_laid(self):
        for add, row in ways():
            wood = Wood(add)
            makes = [make for count in (0, 1, 2, 4, 9, 40) for make in zoo(wood, row(count), count)]
            kept = copy.deepcopy(makes)
            for one in makes:
                for other in makes:
                    things = plain_things(one) + plain_things(other)
                    self.assert_make(wood, laid(wood, one, other), things)
            self.assertEqual(makes, kept)

    def test_laid_to_itself_again_and_again(self):
        wood = Wood(join)
        make = mixed(wood, letters(5), 3)
        things = plain_things(make)
        for turn in range(8):
            make = laid(wood, make, make if turn % 2 else wood.turned(make))
            things = things + (things if turn % 2 else things[::-1])
            self.assert_make(wood, make, things)
        self.assertEqual(size(make), 1280)

    def test_makes_of_very_unlike_heights_laid_together(self):
        chance = random.Random(4)
        wood = Wood(join)
        makes = [lean_mixed(wood, levels, chance, lambda: chance.choice("abc")) for levels in range(14)]
        for one in makes:
            for other in makes:
                things = plain_things(one) + plain_things(other)
                self.assert_make(wood, laid(wood, one, other), things)

    def test_leanest_makes(self):
        for seed in range(12):
            chance = random.Random(seed)
            wood = Wood(join)
            make = lean_mixed(wood, 2 + seed % 6, chance, lambda: chance.choice("abcdefg"))
            things = plain_things(make)
            for place in range(len(things) + 1):
                self.assert_make(wood, put(wood, make, place, "x"), things[:place] + ["x"] + things[place:])
                one, other = cut(wood, make, place)
                self.assert_make(wood, one, things[:place])
                self.assert_make(wood, other, things[place:])
            for place in range(len(things)):
                self.assert_make(wood, out(wood, make, place), things[:place] + things[place + 1:])


class GreatMakes(Case):
    def test_put_out_swapped_and_cut(self):
        chance = random.Random(1)
        for wood, make, things, more in great_makes():
            for place in some_places(len(things), chance):
                if len(things) < 2000:
                    self.assert_make(wood, put(wood, make, place, more), things[:place] + [more] + things[place:])
                one, other = cut(wood, make, place)
                self.assert_make(wood, one, things[:place])
                self.assert_make(wood, other, things[place:])
                if place < len(things):
                    self.assert_make(wood, out(wood, make, place), things[:place] + things[place + 1:])
                    told = swapped(wood, make, place, more)
                    self.assert_make(wood, told, things[:place] + [more] + things[place + 1:])
            self.assert_make(wood, make, things)

    def test_part_turned_part_and_laid(self):
        chance = random.Random(2)
        for wood, make, things, more in great_makes():
            places = some_places(len(things), chance)
            for start, end in [(0, len(things))] + [sorted(chance.sample(places, 2)) for k in range(3)]:
                one = part(wood, make, start, end)
                self.assert_make(wood, one, things[start:end])
                told = turned_part(wood, make, start, end)
                self.assert_make(wood, told, things[:start] + things[start:end][::-1] + things[end:])
                rest = part(wood, make, 0, 2000 - (end - start)) if end - start + len(things) > 2000 else make
                self.assert_make(wood, laid(wood, one, rest), things[start:end] + plain_things(rest))
            self.assert_make(wood, make, things)

    def test_just_two_thousand_things(self):
        for add, row in GREAT_WAYS:
            wood = Wood(add)
            most = built(wood, row(2000))
            nearly = built(wood, row(1999))
            single = built(wood, row(1))
            self.assert_make(wood, put(wood, nearly, 1999, row(1)[0]), row(1999) + row(1))
            self.assert_make(wood, laid(wood, nearly, single), row(1999) + row(1))
            self.assert_make(wood, laid(wood, single, nearly), row(1) + row(1999))
            self.assert_make(wood, laid(wood, most, None), row(2000))
            self.assert_make(wood, laid(wood, None, most), row(2000))

    def test_grown_and_emptied_one_by_one(self):
        for where in (lambda count: 0, lambda count: count, lambda count: count // 2, lambda count: count * 7 % 11):
            wood = Wood(join)
            make = None
            things = []
            for count in range(600):
                place = min(where(count), count)
                make = put(wood, make, place, letters(count + 1)[-1])
                things.insert(place, letters(count + 1)[-1])
                if count % 50 == 0:
                    self.assert_make(wood, make, things)
            self.assert_make(wood, make, things)
            while things:
                place = min(where(len(things)), len(things) - 1)
                make = out(wood, make, place)
                things.pop(place)
                if len(things) % 50 == 0:
                    self.assert_make(wood, make, things)
            self.assertIsNone(make)


class ManyDeeds(Case):
    def deed(self, wood, chance, make, things, other, others):
        """A deed by chance, told as the new make and the plain list beside it."""
        count = len(things)
        word = chance.choice("abcdefgh") * chance.randrange(1, 9)
        place = chance.randrange(count + 1)
        start, end = sorted((place, chance.randrange(count + 1)))
        kind = chance.choice(("put", "put", "put", "out", "swapped", "turned", "turned", "laid", "cut", "part"))
        if kind == "put" and count < 2000:
            return put(wood, make, place, word), things[:place] + [word] + things[place:]
        if kind == "out" and place < count:
            return out(wood, make, place), things[:place] + things[place + 1:]
        if kind == "swapped" and place < count:
            return swapped(wood, make, place, word), things[:place] + [word] + things[place + 1:]
        if kind == "laid" and count + len(others) <= 300:
            return laid(wood, make, other), things + others
        if kind == "cut":
            one, rest = cut(wood, make, place)
            return laid(wood, rest, one), things[place:] + things[:place]
        if kind == "part" and end - start > 20:
            return part(wood, make, start, end), things[start:end]
        return turned_part(wood, make, start, end), things[:start] + things[start:end][::-1] + things[end:]

    def test_each_make_has_what_a_plain_list_has_and_old_makes_stay(self):
        for seed in range(8):
            chance = random.Random(seed)
            wood = Wood((None, join, last, join)[seed % 4])
            kept = [(None, [])]
            for turn in range(250):
                make, things = kept[-1]
                other, others = chance.choice(kept)
                made = wood.made()
                make, things = self.deed(wood, chance, make, things, other, others)
                self.assertGreaterEqual(wood.made(), made)
                self.assert_make(wood, make, things)
                kept.append((make, things))
            for make, things in kept:
                self.assertEqual(plain_things(make), things)
                self.assertEqual(things_of(make), things)

    def test_one_number_is_one_node(self):
        chance = random.Random(9)
        wood = Wood(join)
        kept = [(make_of(wood, letters(30)), letters(30))]
        nodes = {}
        for turn in range(120):
            kept.append(self.deed(wood, chance, *kept[-1], *chance.choice(kept)))
        waiting = [make for make, things in kept]
        while waiting:
            make = waiting.pop()
            if make is not None and nodes.setdefault(make[0], make) is make:
                waiting += [make[2], make[4]]
            elif make is not None:
                self.assertEqual(nodes[make[0]], make)
        self.assertLessEqual(max(nodes), wood.made() - 1)


class NothingIsChanged(Case):
    def test_makes_handed_in_stay_as_they_are(self):
        for add in (None, join):
            wood = Wood(add)
            for make in zoo(wood, letters(12), 5):
                kept = copy.deepcopy(make)
                numbers = numbers_of(make)
                put(wood, make, 5, "x")
                out(wood, make, 5)
                swapped(wood, make, 5, "x")
                cut(wood, make, 5)
                laid(wood, make, make)
                part(wood, make, 2, 9)
                turned_part(wood, make, 2, 9)
                things_of(make)
                at(make, 3)
                self.assertEqual(make, kept)
                self.assertEqual(numbers_of(make), numbers)


class Refused(Case):
    def makes(self):
        for add in (None, join):
            for count in (0, 1, 2, 7, 1000, 2000):
                wood = Wood(add)
                for make in zoo(wood, letters(count), 3):
                    yield wood, make, count

    def test_places_that_are_not_there(self):
        for wood, make, count in self.makes():
            for place in (-1, -2, -count, -count - 1, -10 ** 9, count, count + 1, 2 * count + 3, 10 ** 9, 10 ** 5000):
                if place != 0 or count == 0:
                    self.assert_refused(wood, NoPlace, out, wood, make, place)
                    self.assert_refused(wood, NoPlace, swapped, wood, make, place, "x")
                    self.assert_refused(wood, NoPlace, at, make, place)
                if place != 0 and place != count:
                    self.assert_refused(wood, NoPlace, put, wood, make, place, "x")
                    self.assert_refused(wood, NoPlace, cut, wood, make, place)

    def test_stretches_that_are_not_there(self):
        for wood, make, count in self.makes():
            for start, end in ((-1, count), (-1, 0), (-1, -1), (0, count + 1), (count, count + 1), (1, 0),
                               (count, count - 1), (count + 1, count + 1), (count + 1, count), (-2, -1),
                               (0, -1), (-1, count + 1), (0, 10 ** 5000), (-10 ** 5000, 0)):
                self.assert_refused(wood, NoPlace, part, wood, make, start, end)
                self.assert_refused(wood, NoPlace, turned_part, wood, make, start, end)

    def test_edges_that_are_there(self):
        for wood, make, count in self.makes():
            things = plain_things(make)
            for start, end in ((0, 0), (count, count), (0, count)):
                self.assertEqual(plain_things(part(wood, make, start, end)), things[start:end])
                told = plain_things(turned_part(wood, make, start, end))
                self.assertEqual(told, things[:start] + things[start:end][::-1] + things[end:])
            self.assertEqual([plain_things(half) for half in cut(wood, make, 0)], [[], things])
            self.assertEqual([plain_things(half) for half in cut(wood, make, count)], [things, []])

    def test_put_into_two_thousand(self):
        for add in (None, join):
            wood = Wood(add)
            for make in zoo(wood, letters(2000), 2):
                for place in (0, 1, 1000, 1999, 2000):
                    self.assert_refused(wood, TooMany, put, wood, make, place, "x")
                for place in (-1, 2001, -2000):
                    self.assert_refused(wood, NoPlace, put, wood, make, place, "x")
                self.assertEqual(size(swapped(wood, make, 1999, "x")), 2000)

    def test_laid_beyond_two_thousand(self):
        for add in (None, join):
            wood = Wood(add)
            for one, other in ((1, 2000), (2000, 1), (1000, 1001), (2000, 2000), (1999, 2)):
                for first in zoo(wood, letters(one), 1)[::2]:
                    for second in zoo(wood, letters(other), 2)[::2]:
                        self.assert_refused(wood, TooMany, laid, wood, first, second)

    def test_what_is_refused_changes_no_make(self):
        wood = Wood(join)
        make = with_turned_stretches(wood, make_of(wood, letters(9)), random.Random(3))
        kept = copy.deepcopy(make)
        for deed, asked in ((put, (10, "x")), (out, (9,)), (swapped, (-1, "x")), (cut, (10,)), (part, (5, 4)),
                            (turned_part, (0, 10))):
            self.assert_refused(wood, NoPlace, deed, wood, make, *asked)
        self.assertEqual(make, kept)


if __name__ == "__main__":
    unittest.main()
