import copy
import random
import unittest

from helper import Case, built, join, last, letters, lean_mixed, mixed, numbers_of, plain_things
from ownshelf.errors import NoThing, TooMany
from ownshelf.nodes import size
from ownshelf.rows import cut, laid, turned_part
from ownshelf.sets import added, common, dropped, either, has, less, place_of
from ownshelf.wood import Wood


def up(one, other):
    return one < other


def down(one, other):
    return other < one


def by_rest(one, other):
    # Whole numbers that leave the same rest are alike, though they are unlike.
    return one % 1000 < other % 1000


def by_length(one, other):
    return len(one) < len(other)


def alike(before, one, other):
    return not before(one, other) and not before(other, one)


def shapes(wood, things):
    """Makes of just these things in this order, with stretches turned about within and as a whole."""
    plain = built(wood, things)
    found = [plain, wood.turned(built(wood, things[::-1]))]
    middle = len(things) // 2
    for start, end in ((0, middle), (middle, len(things)), (len(things) // 4, len(things) - len(things) // 4)):
        odd = things[:start] + things[start:end][::-1] + things[end:]
        found.append(turned_part(wood, built(wood, odd), start, end))
    one, other = cut(wood, found[-1], middle)
    found.append(laid(wood, one, wood.turned(wood.turned(other))))
    return found


def plain_place(things, thing, before):
    return len([one for one in things if before(one, thing)])


def plain_either(ones, others, before):
    found = ones + [thing for thing in others if not any(alike(before, one, thing) for one in ones)]
    for end in range(1, len(found)):
        place = end
        while place and before(found[place], found[place - 1]):
            found[place - 1], found[place] = found[place], found[place - 1]
            place -= 1
    return found


def small_sets():
    """Triples of an order, things of a set by it, and things asked for: there, between, ahead and behind."""
    for count in (0, 1, 2, 3, 6, 11, 20):
        row = list(range(1, 2 * count, 2))
        asked = list(range(-1, 2 * count + 2)) + [-10 ** 30, 10 ** 30]
        yield up, row, asked
        yield down, row[::-1], asked
        rests = [number + 1000 * (number % 7) for number in row]
        yield by_rest, rests, asked[:-2] + [number + 5000 for number in range(2 * count + 2)]
        words = ["abcdefgh"[k % 8] * k for k in range(1, count + 1, 2)]
        yield by_length, words, ["z" * k for k in range(count + 3)]
        yield up, sorted(set(letters(count))), letters(count) + ["", "aa", "zz", "m"]


class Places(Case):
    def test_place_of_and_has(self):
        for before, things, asked in small_sets():
            wood = Wood()
            for make in shapes(wood, things):
                made = wood.made()
                kept = copy.deepcopy(make)
                for thing in asked:
                    self.assertEqual(place_of(make, thing, before), plain_place(things, thing, before))
                    there = any(alike(before, one, thing) for one in things)
                    self.assertIs(has(make, thing, before), there)
                self.assertEqual(wood.made(), made)
                self.assertEqual(make, kept)

    def test_of_the_empty_set(self):
        for before in (up, down, by_rest):
            self.assertEqual(place_of(None, 5, before), 0)
            self.assertIs(has(None, 5, before), False)

    def test_of_things_alike_but_not_the_same(self):
        make = built(Wood(), [1001, 2002, 5, 4007])
        self.assertIs(has(make, 2, by_rest), True)
        self.assertIs(has(make, 9002, by_rest), True)
        self.assertIs(has(make, 3, by_rest), False)
        self.assertEqual(place_of(make, 2, by_rest), 1)
        self.assertEqual(place_of(make, 7005, by_rest), 2)
        self.assertEqual(place_of(make, 3, by_rest), 2)
        self.assertEqual(place_of(make, 1000, by_rest), 0)
        self.assertEqual(place_of(make, 8, by_rest), 4)

    def test_of_great_sets(self):
        for before, row in ((up, list(range(0, 4000, 2))), (down, list(range(3998, -1, -2)))):
            wood = Wood()
            for make in shapes(wood, row):
                for thing in (-1, 0, 1, 2, 1999, 2000, 2001, 3997, 3998, 3999):
                    self.assertEqual(place_of(make, thing, before), plain_place(row, thing, before))
                    self.assertIs(has(make, thing, before), thing in row)

    def test_of_lean_sets_turned_within(self):
        for seed in range(20):
            wood = Wood()
            shape = lean_mixed(wood, 1 + seed % 7, random.Random(seed), iter(range(10000)).__next__)
            rank = {thing: place for place, thing in enumerate(plain_things(shape))}
            for thing, place in rank.items():
                self.assertEqual(place_of(shape, thing, lambda one, other: rank[one] < rank[other]), place)
                self.assertIs(has(shape, thing, lambda one, other: rank[one] < rank[other]), True)


class AddedAndDropped(Case):
    def test_added(self):
        for before, things, asked in small_sets():
            for add in (None, last):
                wood = Wood(add)
                for make in shapes(wood, things):
                    for thing in asked:
                        made = wood.made()
                        told = added(wood, make, thing, before)
                        if any(alike(before, one, thing) for one in things):
                            self.assertIs(told, make)
                            self.assertEqual(wood.made(), made)
                        else:
                            place = plain_place(things, thing, before)
                            self.assert_make(wood, told, things[:place] + [thing] + things[place:])
                    self.assert_make(wood, make, things)

    def test_added_where_one_alike_is_there_keeps_that_one(self):
        wood = Wood()
        make = built(wood, [1001, 2002, 4007])
        numbers = numbers_of(make)
        told = added(wood, make, 7, by_rest)
        self.assertEqual(told, make)
        self.assertEqual(numbers_of(told), numbers)
        self.assertEqual(plain_things(told), [1001, 2002, 4007])

    def test_added_to_two_thousand(self):
        for before, row, rest in (
            (up, list(range(0, 4000, 2)), 0), (down, list(range(3998, -1, -2)), 0),
            (lambda one, other: one % 5000 < other % 5000, list(range(0, 4000, 2)), 5000),
        ):
            wood = Wood(join)
            for make in shapes(wood, row):
                made = wood.made()
                for thing in (0, 2, 2000, 3998):
                    self.assertIs(added(wood, make, thing + rest, before), make)
                self.assertEqual(wood.made(), made)
                for thing in (1, 1999, 3999, 4000):
                    self.assert_refused(wood, TooMany, added, wood, make, thing + rest, before)

    def test_dropped(self):
        for before, things, asked in small_sets():
            for add in (None, last):
                wood = Wood(add)
                for make in shapes(wood, things):
                    for thing in asked:
                        if any(alike(before, one, thing) for one in things):
                            place = plain_place(things, thing, before)
                            told = dropped(wood, make, thing, before)
                            self.assert_make(wood, told, things[:place] + things[place + 1:])
                        else:
                            self.assert_refused(wood, NoThing, dropped, wood, make, thing, before)
                    self.assert_make(wood, make, things)

    def test_dropped_of_none(self):
        wood = Wood()
        self.assert_refused(wood, NoThing, dropped, wood, None, 5, up)

    def test_of_numbers_of_very_many_figures(self):
        wood = Wood()
        great = 10 ** 5000
        make = added(wood, built(wood, [1, 2]), great, up)
        self.assert_refused(wood, NoThing, dropped, wood, make, great + 1, up)
        self.assertEqual(plain_things(dropped(wood, make, great, up)), [1, 2])

    def test_many_deeds(self):
        for seed, before in enumerate((up, down, by_rest)):
            chance = random.Random(seed)
            wood = Wood(join)
            make, plain = None, []
            for turn in range(400):
                thing = chance.randrange(60) + 1000 * chance.randrange(3) * (before is by_rest)
                there = [one for one in plain if alike(before, one, thing)]
                if there and chance.randrange(2):
                    make = dropped(wood, make, thing, before)
                    plain.remove(there[0])
                elif there:
                    self.assertIs(added(wood, make, thing, before), make)
                else:
                    make = added(wood, make, thing, before)
                    plain.insert(plain_place(plain, thing, before), thing)
                self.assert_make(wood, make, plain)


class TwoSets(Case):
    def assert_two(self, wood, before, one, other):
        ones, others = plain_things(one), plain_things(other)
        self.assert_make(wood, either(wood, one, other, before), plain_either(ones, others, before))
        shared = [thing for thing in ones if any(alike(before, thing, rest) for rest in others)]
        self.assert_make(wood, common(wood, one, other, before), shared)
        self.assert_make(wood, less(wood, one, other, before), [thing for thing in ones if thing not in shared])
        self.assert_make(wood, one, ones)
        self.assert_make(wood, other, others)

    def test_orders_up_and_down(self):
        chance = random.Random(3)
        for add in (None, join):
            for first in (0, 1, 2, 5, 12, 30):
                for second in (0, 1, 2, 5, 12, 30):
                    wood = Wood(add)
                    ones = sorted(chance.sample(range(40), first))
                    others = sorted(chance.sample(range(40), second))
                    for one in shapes(wood, ones)[:3]:
                        for other in shapes(wood, others)[2:5]:
                            self.assert_two(wood, up, one, other)
                    one, other = mixed(wood, ones[::-1], 0), built(wood, others[::-1])
                    if plain_things(one) == ones[::-1]:
                        self.assert_two(wood, down, one, other)
                    self.assert_two(wood, down, built(wood, ones[::-1]), other)

    def test_of_two_alike_the_first_sets_stands(self):
        chance = random.Random(5)
        for first in (0, 1, 3, 10, 25):
            for second in (0, 1, 3, 10, 25):
                wood = Wood(last)
                ones = [rest + 1000 * chance.randrange(3) for rest in sorted(chance.sample(range(30), first))]
                others = [rest + 1000 * chance.randrange(3, 6) for rest in sorted(chance.sample(range(30), second))]
                for one in shapes(wood, ones)[1:4]:
                    for other in shapes(wood, others)[1:4]:
                        self.assert_two(wood, by_rest, one, other)
        wood = Wood()
        one, other = built(wood, [1001, 5, 2007]), built(wood, [1, 3, 7, 1009])
        self.assertEqual(plain_things(either(wood, one, other, by_rest)), [1001, 3, 5, 2007, 1009])
        self.assertEqual(plain_things(common(wood, one, other, by_rest)), [1001, 2007])
        self.assertEqual(plain_things(less(wood, one, other, by_rest)), [5])
        self.assertEqual(plain_things(either(wood, other, one, by_rest)), [1, 3, 5, 7, 1009])
        self.assertEqual(plain_things(common(wood, other, one, by_rest)), [1, 7])
        self.assertEqual(plain_things(less(wood, other, one, by_rest)), [3, 1009])

    def test_a_set_and_itself_and_the_empty_set(self):
        wood = Wood(join)
        for make in shapes(wood, list(range(15))):
            self.assert_two(wood, up, make, make)
            self.assert_two(wood, up, make, None)
            self.assert_two(wood, up, None, make)
            self.assertIsNone(less(wood, make, make, up))
        self.assertIsNone(either(wood, None, None, up))
        self.assertIsNone(common(wood, None, None, up))
        self.assertIsNone(less(wood, None, None, up))

    def test_of_great_sets(self):
        wood = Wood(join)
        evens, odds = list(range(0, 2000, 2)), list(range(1, 2000, 2))
        for one in shapes(wood, evens)[:3]:
            for other in shapes(wood, odds)[:3]:
                self.assert_make(wood, either(wood, one, other, up), list(range(2000)))
                self.assertIsNone(common(wood, one, other, up))
                self.assert_make(wood, less(wood, one, other, up), evens)
        most = built(wood, list(range(2000)))
        few = built(wood, [0, 700, 1999])
        for one, other in ((most, few), (few, most), (most, most)):
            self.assert_make(wood, either(wood, one, other, up), list(range(2000)))
        self.assert_make(wood, common(wood, most, few, up), [0, 700, 1999])
        self.assert_make(wood, less(wood, most, few, up), [k for k in range(2000) if k not in (0, 700, 1999)])

    def test_either_of_too_many(self):
        for add in (None, join):
            wood = Wood(add)
            most = shapes(wood, list(range(2000)))
            single = built(wood, [5000])
            for make in most:
                self.assert_refused(wood, TooMany, either, wood, make, single, up)
                self.assert_refused(wood, TooMany, either, wood, single, make, up)
                self.assertEqual(size(common(wood, make, make, up)), 2000)
            one, other = built(wood, list(range(1500))), built(wood, list(range(1000, 2001)))
            self.assert_refused(wood, TooMany, either, wood, one, other, up)
            other = built(wood, list(range(1000, 2000)))
            self.assertEqual(plain_things(either(wood, one, other, up)), list(range(2000)))

    def test_sets_handed_in_stay_as_they_are(self):
        wood = Wood(join)
        for one in shapes(wood, list(range(0, 30, 2))):
            other = built(wood, list(range(0, 30, 3)))
            kept = copy.deepcopy((one, other))
            for deed in (either, common, less):
                deed(wood, one, other, up)
            for deed in (added, dropped):
                deed(wood, one, 6, up)
            added(wood, one, 7, up)
            self.assertEqual((one, other), kept)


if __name__ == "__main__":
    unittest.main()
