import copy
import unittest

from helper import (
    built, chain, first, join, last, lean, letters, plain_sum, plain_things, plainly_right, samples,
)
from ownshelf.errors import NoBalance, TooMany
from ownshelf.nodes import height, is_right, parts, size
from ownshelf.wood import Wood


class MakingWoods(unittest.TestCase):
    def test_adding_is_the_way_of_adding_or_none(self):
        self.assertIsNone(Wood().adding)
        self.assertIsNone(Wood(None).adding)
        self.assertIs(Wood(join).adding, join)
        self.assertIs(Wood(add=last).adding, last)

    def test_a_new_wood_has_made_none(self):
        self.assertEqual(Wood().made(), 0)
        self.assertEqual(Wood(join).made(), 0)

    def test_numbers_go_from_0_on_in_the_order_of_making(self):
        wood = Wood(join)
        a = wood.node(None, "a", None)
        self.assertEqual(wood.made(), 1)
        b = wood.node(None, "b", None)
        c = wood.turned(a)
        d = wood.node(c, "d", b)
        self.assertEqual([make[0] for make in (a, b, c, d)], [0, 1, 2, 3])
        self.assertEqual(wood.made(), 4)

    def test_woods_number_on_their_own(self):
        one = Wood()
        other = Wood()
        one.node(None, 1, None)
        self.assertEqual(other.made(), 0)
        self.assertEqual(other.node(None, 1, None)[0], 0)
        self.assertEqual(one.node(None, 1, None)[0], 1)

    def test_asking_makes_no_node(self):
        wood = Wood(join)
        make = built(wood, letters(5))
        before = wood.made()
        size(make), height(make), is_right(make, join), wood.made(), parts(wood, make)
        self.assertEqual(wood.made(), before)


class MakingNodes(unittest.TestCase):
    def test_a_node_of_one_thing(self):
        self.assertEqual(Wood().node(None, "a", None), (0, False, None, "a", None, 1, 1, None, None))
        self.assertEqual(Wood(join).node(None, "a", None), (0, False, None, "a", None, 1, 1, "a", "a"))

    def test_the_sum_of_one_thing_is_the_thing_and_nothing_is_added(self):
        def never(one, other):
            raise AssertionError("asked")

        self.assertEqual(Wood(never).node(None, 5, None)[7:], (5, 5))

    def test_a_node_of_two_makes_and_a_thing(self):
        wood = Wood(join)
        a = wood.node(None, "a", None)
        c = wood.node(None, "c", None)
        abc = wood.node(a, "b", c)
        self.assertEqual(abc, (2, False, a, "b", c, 3, 2, "abc", "cba"))
        self.assertEqual(wood.node(abc, "d", c), (3, False, abc, "d", c, 5, 3, "abcdc", "cdcba"))

    def test_one_side_may_be_empty(self):
        wood = Wood(join)
        a = wood.node(None, "a", None)
        self.assertEqual(wood.node(a, "b", None), (1, False, a, "b", None, 2, 2, "ab", "ba"))
        self.assertEqual(wood.node(None, "b", a), (2, False, None, "b", a, 2, 2, "ba", "ab"))

    def test_sides_that_stand_turned_about(self):
        wood = Wood(join)
        abc = built(wood, ["a", "b", "c"])
        cba = wood.turned(abc)
        self.assertEqual(wood.node(cba, "x", abc)[5:], (7, 3, "cbaxabc", "cbaxabc"))
        self.assertEqual(wood.node(abc, "x", abc)[5:], (7, 3, "abcxabc", "cbaxcba"))
        self.assertEqual(wood.node(abc, "x", cba)[5:], (7, 3, "abcxcba", "abcxcba"))

    def test_one_make_may_stand_on_both_sides(self):
        wood = Wood(join)
        a = wood.node(None, "a", None)
        self.assertEqual(wood.node(a, "b", a), (1, False, a, "b", a, 3, 2, "aba", "aba"))

    def test_sums_that_count_as_nothing_are_added_all_the_same(self):
        for add in (join, first, last, min):
            for row in ([0, 5, 6], [5, 6, 0], [0, 5, 0], [5, 0, 6]):
                wood = Wood(add)
                make = wood.node(wood.node(None, row[0], None), row[1], wood.node(None, row[2], None))
                with self.subTest(add=add.__name__, row=row):
                    self.assertEqual(make[7:], (plain_sum(add, row), plain_sum(add, row[::-1])))
        wood = Wood(join)
        make = wood.node(wood.node(None, "", None), "a", wood.node(None, "", None))
        self.assertEqual(make[5:], (3, 2, "a", "a"))

    def test_a_way_of_adding_that_is_not_the_same_both_ways(self):
        wood = Wood(chain)
        things = [(2, 1), (3, 0), (1, 5), (-1, 4), (2, 2)]
        make = built(wood, things)
        self.assertEqual(make[7], plain_sum(chain, things))
        self.assertEqual(make[8], plain_sum(chain, things[::-1]))
        self.assertNotEqual(make[7], make[8])

    def test_each_sample_is_as_the_document_says(self):
        for add, wood, make in samples():
            self.assertTrue(plainly_right(make, add), make)

    def test_heights_may_differ_by_one(self):
        wood = Wood()
        for levels in range(0, 6):
            low = lean(wood, levels)
            high = lean(wood, levels + 1)
            self.assertEqual(height(wood.node(low, 1, high)), levels + 2)
            self.assertEqual(height(wood.node(high, 1, low)), levels + 2)
            self.assertEqual(height(wood.node(low, 1, low)), levels + 1)


class RefusedNodes(unittest.TestCase):
    def assert_makes_none(self, wood, error, left, thing, right):
        before = wood.made()
        kept = copy.deepcopy((left, right))
        with self.assertRaises(error):
            wood.node(left, thing, right)
        self.assertEqual(wood.made(), before)
        self.assertEqual((left, right), kept)
        self.assertEqual(wood.node(None, thing, None)[0], before)

    def test_no_balance_where_heights_differ_by_more_than_one(self):
        for add in (None, join):
            wood = Wood(add)
            for levels in range(0, 5):
                low = lean(wood, levels)
                for more in (2, 3, 5):
                    high = lean(wood, levels + more)
                    with self.subTest(levels=levels, more=more):
                        self.assert_makes_none(wood, NoBalance, low, 1, high)
                        self.assert_makes_none(wood, NoBalance, high, 1, low)
                        self.assert_makes_none(wood, NoBalance, wood.turned(high), 1, low)

    def test_heights_are_what_counts_and_not_sizes(self):
        wood = Wood()
        left = lean(wood, 8)
        right = built(wood, list(range(255)))
        self.assertEqual((height(left), height(right)), (8, 8))
        self.assertEqual(size(wood.node(left, 1, right)), size(left) + 256)

    def test_just_two_thousand_things_are_taken(self):
        wood = Wood(join)
        make = wood.node(built(wood, [1] * 1000), 1, built(wood, [1] * 999))
        self.assertEqual(make[5:], (2000, 11, 2000, 2000))
        self.assertEqual(size(wood.turned(make)), 2000)

    def test_one_more_is_too_many(self):
        wood = Wood(join)
        thousand = built(wood, [1] * 1000)
        self.assert_makes_none(wood, TooMany, thousand, 1, thousand)
        self.assert_makes_none(wood, TooMany, thousand, 1, wood.turned(thousand))
        self.assert_makes_none(wood, TooMany, built(wood, [1] * 2000), 1, built(wood, [1] * 2000))

    def test_too_many_comes_ahead_of_no_balance(self):
        wood = Wood(join)
        most = built(wood, [1] * 2000)
        single = wood.node(None, 1, None)
        self.assert_makes_none(wood, TooMany, most, 1, None)
        self.assert_makes_none(wood, TooMany, None, 1, most)
        self.assert_makes_none(wood, TooMany, most, 1, single)
        nearly = built(wood, [1] * 1999)
        self.assert_makes_none(wood, NoBalance, nearly, 1, None)
        self.assert_makes_none(wood, TooMany, nearly, 1, single)
        self.assert_makes_none(wood, TooMany, single, 1, nearly)


class Turning(unittest.TestCase):
    def test_none_is_none_and_makes_no_node(self):
        wood = Wood(join)
        self.assertIsNone(wood.turned(None))
        self.assertEqual(wood.made(), 0)

    def test_a_turned_node_is_alike_but_for_number_about_and_sums(self):
        wood = Wood(join)
        abc = built(wood, ["a", "b", "c"])
        a, c = abc[2], abc[4]
        turned = wood.turned(abc)
        self.assertEqual(turned, (3, True, a, "b", c, 3, 2, "cba", "abc"))
        self.assertEqual(wood.turned(turned), (4, False, a, "b", c, 3, 2, "abc", "cba"))
        self.assertEqual(wood.made(), 5)
        self.assertEqual(abc, (2, False, a, "b", c, 3, 2, "abc", "cba"))

    def test_without_a_way_of_adding(self):
        wood = Wood()
        a = wood.node(None, "a", None)
        self.assertEqual(wood.turned(a), (1, True, None, "a", None, 1, 1, None, None))

    def test_things_turn_and_turn_back(self):
        for add, wood, make in samples():
            before = wood.made()
            kept = copy.deepcopy(make)
            once = wood.turned(make)
            twice = wood.turned(once)
            self.assertEqual(wood.made(), before + (0 if make is None else 2))
            self.assertEqual(plain_things(once), plain_things(make)[::-1])
            self.assertEqual(plain_things(twice), plain_things(make))
            self.assertTrue(plainly_right(once, add) and plainly_right(twice, add))
            self.assertEqual(make, kept)
            if make is not None:
                self.assertEqual(once, (before, not make[1]) + make[2:7] + (make[8], make[7]))
                self.assertEqual(twice, (before + 1,) + make[1:])


if __name__ == "__main__":
    unittest.main()
