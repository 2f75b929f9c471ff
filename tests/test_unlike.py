"""The first place at which two makes differ."""

import random
import unittest

from helper import Case, built, join, letters, mixed, plain_things, with_turned_stretches, zoo
from ownshelf.rows import cut, laid, make_of, out, part, put, swapped, turned_part
from ownshelf.unlike import first_unlike
from ownshelf.wood import Wood


def equal(one, other):
    return one == other


def at_most(one, other):
    # Not the same both ways round.
    return one <= other


def same_rest(one, other):
    # Holds unlike things for the same.
    return one % 3 == other % 3


def always(one, other):
    return True


def plain_unlike(ones, others, same):
    for place in range(max(len(ones), len(others))):
        if place >= min(len(ones), len(others)) or not same(ones[place], others[place]):
            return place
    return None


class Unlike(Case):
    def assert_unlike(self, wood, one, other, same=equal):
        """As told the slow way; and no node is made."""
        made = wood.made()
        told = first_unlike(one, other, same)
        self.assertEqual(told, plain_unlike(plain_things(one), plain_things(other), same))
        self.assertEqual(wood.made(), made)
        return told

    def test_of_none(self):
        wood = Wood()
        some = make_of(wood, ["a", "b"])
        for same in (equal, always):
            self.assertIsNone(first_unlike(None, None, same))
            self.assertEqual(first_unlike(some, None, same), 0)
            self.assertEqual(first_unlike(None, some, same), 0)

    def test_alike(self):
        wood = Wood(join)
        for count in (1, 2, 3, 10, 100):
            for make in zoo(wood, letters(count), count):
                self.assertIsNone(first_unlike(make, make, equal))
                self.assertIsNone(first_unlike(make, built(wood, plain_things(make)), equal))
                self.assertIsNone(first_unlike(make, wood.turned(wood.turned(make)), equal))
                self.assertIsNone(first_unlike(make, wood.turned(built(wood, plain_things(make)[::-1])), equal))

    def test_unlike_at_each_place(self):
        wood = Wood()
        for count in (1, 2, 3, 4, 13, 30):
            for make in zoo(wood, letters(count), count):
                things = plain_things(make)
                for place in range(count):
                    sharing = swapped(wood, make, place, "X")
                    alone = built(wood, things[:place] + ["X"] + things[place + 1:])
                    turned = wood.turned(built(wood, (things[:place] + ["X", "Y"] + things[place + 1:])[::-1]))
                    for other in (sharing, alone, turned):
                        self.assertEqual(first_unlike(make, other, equal), place)
                        self.assertEqual(first_unlike(other, make, equal), place)

    def test_the_first_of_several_places(self):
        wood = Wood()
        make = make_of(wood, list(range(50)))
        other = make
        for place in (49, 30, 7, 12, 44):
            other = swapped(wood, other, place, "X")
        self.assertEqual(first_unlike(make, other, equal), 7)

    def test_one_a_beginning_of_the_other(self):
        wood = Wood()
        for make in zoo(wood, list(range(20)), 3):
            for end in range(20):
                sharing, alone = part(wood, make, 0, end), built(wood, plain_things(make)[:end])
                for same in (equal, always):
                    for begin in (sharing, alone):
                        self.assertEqual(first_unlike(make, begin, same), end)
                        self.assertEqual(first_unlike(begin, make, same), end)
            longer = put(wood, make, 20, 20)
            self.assertEqual(first_unlike(make, longer, equal), 20)
            self.assertEqual(first_unlike(longer, make, always), 20)

    def test_one_node_at_unlike_places(self):
        wood = Wood(join)
        for things in (list("abc"), list("aaaa"), list("abab"), list("abcdefgh")):
            make = built(wood, things)
            for other in (
                laid(wood, make_of(wood, ["x"]), make), laid(wood, make_of(wood, ["a"]), make),
                laid(wood, make, make), put(wood, make, 0, "a"), out(wood, make, 0), wood.turned(make),
                laid(wood, wood.turned(make), make), wood.node(make, "a", make),
                wood.node(wood.turned(make), "a", make), wood.node(make, "a", wood.turned(make)),
            ):
                self.assert_unlike(wood, make, other)
                self.assert_unlike(wood, other, make)
                self.assert_unlike(wood, laid(wood, make, make), other)

    def test_the_same_node_turned_in_one_of_both(self):
        wood = Wood()
        inner = make_of(wood, [1, 2, 3])
        plain = wood.node(inner, 4, inner)
        self.assertEqual(first_unlike(plain, wood.node(wood.turned(inner), 4, inner), equal), 0)
        self.assertEqual(first_unlike(plain, wood.node(inner, 4, wood.turned(inner)), equal), 4)
        self.assertEqual(first_unlike(wood.turned(plain), plain, equal), 0)
        self.assertEqual(first_unlike(wood.turned(plain), plain, same_rest), 0)
        self.assertIsNone(first_unlike(wood.turned(plain), plain, always))
        mirror = make_of(wood, [1, 2, 1])
        self.assertIsNone(first_unlike(mirror, wood.turned(mirror), equal))

    def test_same_is_asked_of_the_first_make_s_thing_and_then_of_the_other_s(self):
        wood = Wood()
        low, high = make_of(wood, [1, 2, 3, 4]), make_of(wood, [1, 3, 3, 5])
        self.assertIsNone(first_unlike(low, high, at_most))
        self.assertEqual(first_unlike(high, low, at_most), 1)
        asked = []
        first_unlike(low, high, lambda one, other: asked.append((one, other)) or True)
        self.assertTrue(set(asked) >= {(2, 3), (4, 5)})
        self.assertTrue(set(asked) <= {(1, 1), (2, 3), (3, 3), (4, 5)})

    def test_unlike_things_held_for_the_same(self):
        wood = Wood()
        one, other = make_of(wood, [0, 4, 8, 3]), make_of(wood, [3, 1, 2, 4])
        self.assertEqual(first_unlike(one, other, same_rest), 3)
        self.assertEqual(first_unlike(one, other, equal), 0)
        self.assertIsNone(first_unlike(one, other, always))
        self.assertEqual(first_unlike(one, put(wood, other, 4, 0), always), 4)

    def test_tuples_and_numbers(self):
        wood = Wood()
        one = make_of(wood, [("a", None), ("b", (1, "x")), 10 ** 59])
        other = make_of(wood, [("a", None), ("b", (1, "y")), 10 ** 59])
        self.assertEqual(first_unlike(one, other, equal), 1)
        self.assertIsNone(first_unlike(one, other, lambda a, b: a == b or a[0] == b[0]))

    def test_by_chance(self):
        for seed in range(150):
            chance = random.Random(seed)
            wood = Wood(join)
            make = mixed(wood, [chance.randrange(5) for turn in range(chance.randrange(1, 30))], seed)
            kept = [make, None]
            for turn in range(6):
                count = len(plain_things(make))
                place = chance.randrange(count + 1)
                make = chance.choice((
                    lambda: put(wood, make, place, chance.randrange(5)),
                    lambda: turned_part(wood, make, place // 2, place),
                    lambda: laid(wood, make, chance.choice(kept)),
                    lambda: chance.choice(cut(wood, make, place)),
                    lambda: swapped(wood, make, place // 2, 1) if count else None,
                    lambda: built(wood, plain_things(make)),
                ))()
                kept.append(make)
            for one in kept:
                for other in kept:
                    for same in (equal, at_most, same_rest, always):
                        self.assert_unlike(wood, one, other, same)

    def test_two_thousand_things(self):
        wood = Wood()
        chance = random.Random(9)
        make = with_turned_stretches(wood, make_of(wood, list(range(2000))), chance)
        things = plain_things(make)
        self.assertIsNone(first_unlike(make, built(wood, things), equal))
        for place in (0, 1, 999, 1000, 1998, 1999):
            other = swapped(wood, make, place, -1)
            alone = built(wood, plain_things(other))
            self.assertEqual(first_unlike(make, other, equal), place)
            self.assertEqual(first_unlike(alone, make, equal), place)
            self.assertEqual(first_unlike(make, out(wood, make, place), equal), place)
            self.assertEqual(first_unlike(make, part(wood, make, 0, place), always), place)
        self.assertEqual(first_unlike(make, turned_part(wood, make, 700, 1300), equal), 700)
        self.assertIsNone(first_unlike(turned_part(wood, make, 0, 2000), wood.turned(make), equal))

    def test_the_makes_stay_as_they_are(self):
        wood = Wood(join)
        one, other = zoo(wood, letters(30), 1)[2:4]
        things = (plain_things(one), plain_things(other))
        first_unlike(one, other, always)
        self.assert_make(wood, one, things[0])
        self.assert_make(wood, other, things[1])


if __name__ == "__main__":
    unittest.main()
