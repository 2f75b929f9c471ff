import copy
import random
import unittest

from helper import Case, built, join, last, plain_things
from ownshelf.errors import NoThing, TooMany
from ownshelf.nodes import is_right
from ownshelf.rows import turned_part
from ownshelf.tables import keys_of, value_of, values_of, with_value, without
from ownshelf.wood import Wood

VALUES = (None, False, True, 0, 7, -10 ** 59, "", "text", (), (1, "a"), (None, False, (True, ("b", 0))))


def up(one, other):
    return one < other


def down(one, other):
    return other < one


def by_rest(one, other):
    return one % 1000 < other % 1000


def shapes(wood, pairs):
    """Tables of just these pairs in this order, with stretches turned about within and as a whole."""
    count = len(pairs)
    start, end = count // 4, count - count // 4
    odd = pairs[:start] + pairs[start:end][::-1] + pairs[end:]
    within = turned_part(wood, built(wood, odd), start, end)
    return [built(wood, pairs), wood.turned(built(wood, pairs[::-1])), within]


def small_tables():
    """An order, pairs of a table by it, keys there and keys that are not."""
    for count in (0, 1, 2, 3, 7, 20):
        pairs = [(key, VALUES[key % len(VALUES)]) for key in range(1, 2 * count, 2)]
        there = [key for key, value in pairs]
        away = [-1, 0, 2 * count, 2 * count + 1] + list(range(2, 2 * count, 2))
        yield up, pairs, there, away
        yield down, pairs[::-1], there, away
        yield by_rest, [(key + 1000 * (key % 3), value) for key, value in pairs], there, [
            key + 4000 for key in away if key >= 0
        ]
        words = [("abcdefgh"[k], value) for k, value in enumerate(VALUES[:min(count, 8)])]
        yield up, words, [key for key, value in words], ["", "aa", "z", "hh"]


def plain_find(pairs, key, before):
    for place, pair in enumerate(pairs):
        if not before(pair[0], key) and not before(key, pair[0]):
            return place
    return None


class Asking(Case):
    def test_value_of(self):
        for before, pairs, there, away in small_tables():
            wood = Wood()
            for table in shapes(wood, pairs):
                made = wood.made()
                for key in there:
                    told = value_of(table, key, before)
                    value = pairs[plain_find(pairs, key, before)][1]
                    self.assertEqual(told, value)
                    self.assertIs(told.__class__, value.__class__)
                for key in away:
                    self.assert_refused(wood, NoThing, value_of, table, key, before)
                self.assertEqual(wood.made(), made)

    def test_value_of_the_empty_table(self):
        for key in (0, "a", (1, "b")):
            with self.assertRaises(NoThing):
                value_of(None, key, up)

    def test_keys_and_values(self):
        for before, pairs, there, away in small_tables():
            wood = Wood()
            for table in shapes(wood, pairs):
                self.assertEqual(keys_of(table), [key for key, value in pairs])
                self.assertEqual(values_of(table), [value for key, value in pairs])
        self.assertEqual(keys_of(None), [])
        self.assertEqual(values_of(None), [])

    def test_told_lists_are_the_askers_own(self):
        wood = Wood()
        for table in shapes(wood, [(1, "a"), (2, None), (3, (4, "b")), (9, False)]):
            for ask in (keys_of, values_of):
                first = ask(table)
                kept = list(first)
                second = ask(table)
                second.append("more")
                second[0] = "other"
                self.assertEqual(first, kept)
                self.assertEqual(ask(table), kept)
                first.clear()
                self.assertEqual(ask(table), kept)
            self.assertEqual(plain_things(table), [(1, "a"), (2, None), (3, (4, "b")), (9, False)])


class Changing(Case):
    def test_with_value_for_a_new_key(self):
        for before, pairs, there, away in small_tables():
            for add in (None, last, join):
                wood = Wood(add)
                for table in shapes(wood, pairs):
                    for key in away:
                        place = len([pair for pair in pairs if before(pair[0], key)])
                        for value in VALUES[:3]:
                            told = with_value(wood, table, key, value, before)
                            self.assert_make(wood, told, pairs[:place] + [(key, value)] + pairs[place:])
                            self.assertIs(value_of(told, key, before), value)
                    self.assert_make(wood, table, pairs)

    def test_with_value_for_a_key_that_is_there(self):
        for before, pairs, there, away in small_tables():
            for add in (None, last, join):
                wood = Wood(add)
                for table in shapes(wood, pairs):
                    for key in there:
                        place = plain_find(pairs, key, before)
                        told = with_value(wood, table, key, "new", before)
                        self.assert_make(wood, told, pairs[:place] + [(key, "new")] + pairs[place + 1:])
                        self.assertEqual(value_of(told, key, before), "new")
                        self.assertEqual(value_of(table, key, before), pairs[place][1])
                    self.assert_make(wood, table, pairs)

    def test_the_key_is_then_the_new_one(self):
        wood = Wood()
        for table in shapes(wood, [(1001, "a"), (5, "b"), (2007, "c")]):
            told = with_value(wood, table, 7, "d", by_rest)
            self.assertEqual(plain_things(told), [(1001, "a"), (5, "b"), (7, "d")])
            told = with_value(wood, told, 1, "a", by_rest)
            self.assertEqual(plain_things(told), [(1, "a"), (5, "b"), (7, "d")])
            self.assertEqual(keys_of(told), [1, 5, 7])
            self.assertEqual(keys_of(table), [1001, 5, 2007])

    def test_values_of_every_kind(self):
        wood = Wood()
        for value in VALUES:
            for start in (None, built(wood, [("a", 1), ("k", 2), ("z", 3)])):
                table = with_value(wood, start, "k", value, up)
                told = value_of(table, "k", up)
                self.assertEqual(told, value)
                self.assertIs(told.__class__, value.__class__)
                self.assertIn(value, values_of(table))
                self.assertIsInstance(plain_things(table)[0], tuple)
                table = with_value(wood, table, "k", "else", up)
                self.assertEqual(value_of(table, "k", up), "else")
                self.assertEqual(plain_things(without(wood, table, "k", up)),
                                 [] if start is None else [("a", 1), ("z", 3)])

    def test_without(self):
        for before, pairs, there, away in small_tables():
            for add in (None, last, join):
                wood = Wood(add)
                for table in shapes(wood, pairs):
                    for key in there:
                        place = plain_find(pairs, key, before)
                        told = without(wood, table, key, before)
                        self.assert_make(wood, told, pairs[:place] + pairs[place + 1:])
                        self.assert_refused(wood, NoThing, value_of, told, key, before)
                    for key in away:
                        self.assert_refused(wood, NoThing, without, wood, table, key, before)
                    self.assert_make(wood, table, pairs)
        wood = Wood()
        self.assert_refused(wood, NoThing, without, wood, None, 1, up)

    def test_keys_that_are_tuples_and_keys_of_very_many_figures(self):
        wood = Wood()
        table = None
        for key in ((2, "b"), (1, "z"), (2, "a")):
            table = with_value(wood, table, key, key[1], up)
        self.assertEqual(keys_of(table), [(1, "z"), (2, "a"), (2, "b")])
        self.assertEqual(value_of(table, (2, "a"), up), "a")
        great = 10 ** 5000
        table = with_value(wood, None, great, great, up)
        self.assertEqual(value_of(table, great, up), great)
        self.assert_refused(wood, NoThing, value_of, table, great + 1, up)
        self.assert_refused(wood, NoThing, without, wood, table, great + 1, up)


class GreatTables(Case):
    def test_of_two_thousand_keys(self):
        for add in (None, last):
            for before, rest in ((up, 0), (lambda one, other: one % 5000 < other % 5000, 5000)):
                wood = Wood(add)
                pairs = [(key, str(key)) for key in range(0, 4000, 2)]
                for table in shapes(wood, pairs):
                    for key in (0, 2, 2000, 3998):
                        place = key // 2
                        told = with_value(wood, table, key + rest, "new", before)
                        self.assert_make(wood, told, pairs[:place] + [(key + rest, "new")] + pairs[place + 1:])
                        self.assertEqual(value_of(table, key + rest, before), str(key))
                        told = without(wood, table, key + rest, before)
                        self.assert_make(wood, told, pairs[:place] + pairs[place + 1:])
                    for key in (1, 1999, 3999):
                        self.assert_refused(wood, TooMany, with_value, wood, table, key + rest, "new", before)
                        self.assert_refused(wood, NoThing, without, wood, table, key + rest, before)
                        self.assert_refused(wood, NoThing, value_of, table, key + rest, before)

    def test_many_deeds_beside_a_dict(self):
        for seed, before in enumerate((up, down)):
            chance = random.Random(seed)
            wood = Wood(join)
            table, plain, kept = None, {}, []
            for turn in range(400):
                key, value = chance.randrange(80), chance.choice(VALUES)
                if key in plain and chance.randrange(2):
                    table = without(wood, table, key, before)
                    plain.pop(key)
                else:
                    table = with_value(wood, table, key, value, before)
                    plain[key] = value
                kept.append((table, sorted(plain, reverse=before is down), dict(plain)))
            for table, keys, plain in kept:
                self.assertEqual(keys_of(table), keys)
                self.assertEqual(values_of(table), [plain[key] for key in keys])
                self.assertIs(is_right(table, join), True)

    def test_tables_handed_in_stay_as_they_are(self):
        wood = Wood(join)
        for table in shapes(wood, [(key, "v") for key in range(0, 30, 2)]):
            kept = copy.deepcopy(table)
            with_value(wood, table, 6, "w", up)
            with_value(wood, table, 7, "w", up)
            without(wood, table, 6, up)
            value_of(table, 6, up)
            keys_of(table)
            values_of(table)
            self.assertEqual(table, kept)


if __name__ == "__main__":
    unittest.main()
