import copy
import unittest

from helper import (
    built, changed, join, last, lean, letters, mixed, nodes_with_paths, plain_height, plain_sum,
    plain_things, plainly_right, replaced, samples,
)
from ownshelf.nodes import back, height, is_right, parts, size, total
from ownshelf.wood import Wood


class Reading(unittest.TestCase):
    def test_of_none(self):
        self.assertEqual((size(None), height(None)), (0, 0))
        self.assertIsNone(total(None))
        self.assertIsNone(back(None))

    def test_of_a_node(self):
        wood = Wood(join)
        make = built(wood, ["a", "b", "c", "d"])
        self.assertEqual((size(make), height(make), total(make), back(make)), (4, 3, "abcd", "dcba"))
        turned = wood.turned(make)
        self.assertEqual((size(turned), height(turned), total(turned), back(turned)), (4, 3, "dcba", "abcd"))

    def test_without_a_way_of_adding_there_are_no_sums(self):
        make = built(Wood(), ["a", "b", "c", "d"])
        self.assertEqual((size(make), height(make), total(make), back(make)), (4, 3, None, None))

    def test_of_each_sample(self):
        for add, wood, make in samples():
            things = plain_things(make)
            before = wood.made()
            self.assertEqual(size(make), len(things))
            self.assertEqual(height(make), plain_height(make))
            self.assertEqual(total(make), plain_sum(add, things))
            self.assertEqual(back(make), plain_sum(add, things[::-1]))
            self.assertEqual(wood.made(), before)

    def test_long_sums(self):
        wood = Wood(join)
        make = mixed(wood, ["abcdefgh"] * 1000 + ["hgfedcba"] * 1000, 1)
        things = plain_things(make)
        self.assertEqual(total(make), "".join(things))
        self.assertEqual(back(make), "".join(things[::-1]))


class Parts(unittest.TestCase):
    def test_where_about_is_false_they_are_the_very_parts(self):
        wood = Wood(join)
        make = built(wood, ["a", "b", "c"])
        self.assertEqual(parts(wood, make), (make[2], "b", make[4]))
        self.assertEqual(wood.made(), 3)

    def test_where_about_is_true_they_are_turned_the_right_one_first(self):
        wood = Wood(join)
        make = wood.turned(built(wood, ["a", "b", "c", "d"]))
        before = wood.made()
        left, thing, right = parts(wood, make)
        self.assertEqual((left, thing, right), (
            (before, True, None, "d", None, 1, 1, "d", "d"),
            "c",
            (before + 1, True, make[2][2], "b", None, 2, 2, "ba", "ab"),
        ))
        self.assertEqual(wood.made(), before + 2)

    def test_none_within_makes_no_node(self):
        wood = Wood(join)
        single = wood.turned(wood.node(None, "x", None))
        self.assertEqual(parts(wood, single), (None, "x", None))
        self.assertEqual(wood.made(), 2)
        a = wood.node(None, "a", None)
        ab = wood.turned(wood.node(a, "b", None))
        self.assertEqual(parts(wood, ab), (None, "b", (5, True, None, "a", None, 1, 1, "a", "a")))
        ba = wood.turned(wood.node(None, "b", a))
        self.assertEqual(parts(wood, ba), ((8, True, None, "a", None, 1, 1, "a", "a"), "b", None))
        self.assertEqual(wood.made(), 9)

    def test_a_part_that_stands_turned_turns_once_more(self):
        wood = Wood(join)
        ab = wood.turned(built(wood, ["b", "a"]))
        make = wood.turned(wood.node(ab, "c", wood.node(None, "d", None)))
        left, thing, right = parts(wood, make)
        self.assertEqual((plain_things(left), thing, plain_things(right)), (["d"], "c", ["b", "a"]))
        self.assertEqual((left[1], right[1]), (True, False))

    def test_of_each_sample(self):
        for add, wood, make in samples():
            if make is None:
                continue
            before = wood.made()
            kept = copy.deepcopy(make)
            told = parts(wood, make)
            left, thing, right = told
            self.assertIsInstance(told, tuple)
            self.assertEqual(plain_things(left) + [thing] + plain_things(right), plain_things(make))
            self.assertTrue(plainly_right(left, add) and plainly_right(right, add))
            self.assertTrue(is_right(left, add) and is_right(right, add))
            self.assertEqual(make, kept)
            new = [part[0] for part in (left, right) if part is not None] if make[1] else []
            self.assertEqual(new, list(range(before, wood.made())))


class RightMakes(unittest.TestCase):
    def test_none_is_right(self):
        self.assertIs(is_right(None), True)
        self.assertIs(is_right(None, None), True)
        self.assertIs(is_right(None, join), True)
        self.assertIs(is_right(None, add=last), True)

    def test_each_sample_is_right(self):
        for add, wood, make in samples():
            before = wood.made()
            kept = copy.deepcopy(make)
            self.assertIs(is_right(make, add), True)
            self.assertEqual(wood.made(), before)
            self.assertEqual(make, kept)

    def test_whichever_number_a_node_has(self):
        for number in (0, -5, 10 ** 30):
            self.assertIs(is_right((number, False, None, 1, None, 1, 1, None, None)), True)

    def test_one_node_at_two_places(self):
        wood = Wood(join)
        make = None
        for level in range(10):
            make = wood.node(make, "a", make if level % 2 else wood.turned(make))
        self.assertEqual(size(make), 1023)
        self.assertIs(is_right(make, join), True)

    def test_the_leanest_makes_are_right(self):
        for add in (None, join):
            wood = Wood(add)
            for levels in range(15):
                make = lean(wood, levels)
                self.assertEqual(height(make), levels)
                self.assertIs(is_right(make, add), True)

    def test_two_thousand_nodes(self):
        for add in (None, join):
            wood = Wood(add)
            make = mixed(wood, letters(2000), 5)
            self.assertIs(is_right(make, add), True)
            self.assertIs(is_right(wood.turned(make), add), True)
            path, node = max(nodes_with_paths(make), key=lambda pair: len(pair[0]))
            self.assertIs(is_right(replaced(make, path, changed(node, size=2)), add), False)
            self.assertIs(is_right(replaced(make, path, changed(node, total="zz")), add), False)


class WrongMakes(unittest.TestCase):
    def assert_as_the_document_says(self, make, add):
        self.assertIs(is_right(make, add), plainly_right(make, add), make)

    def wrong_values(self, make):
        """The node with one value, or one pair of values, other than it was."""
        found = [changed(make, size=make[5] + k) for k in (-1, 1, 1000)] + [changed(make, size=0)]
        found += [changed(make, height=make[6] + k) for k in (-1, 1, 1000)] + [changed(make, height=0)]
        for other in (None, make[3], make[7], make[8], 4, "zz", (0, 0)):
            found += [changed(make, total=other), changed(make, back=other), changed(make, thing=other or make[3])]
            found += [changed(make, total=other, back=other)]
        found += [changed(make, total=make[8], back=make[7]), changed(make, about=not make[1])]
        found += [changed(make, about=not make[1], total=make[8], back=make[7])]
        found += [changed(make, left=make[4], right=make[2]), changed(make, left=None), changed(make, right=None)]
        return found

    def test_a_value_changed_anywhere(self):
        seen = {True: 0, False: 0}
        for add in (None, join):
            for count in (1, 2, 3, 6, 9):
                make = mixed(Wood(add), letters(count), count)
                for path, node in nodes_with_paths(make):
                    for wrong in self.wrong_values(node):
                        if add is None or isinstance(wrong[3], str):
                            whole = replaced(make, path, wrong)
                            self.assert_as_the_document_says(whole, add)
                            seen[is_right(whole, add)] += 1
        self.assertGreater(seen[True], 20)
        self.assertGreater(seen[False], 1000)

    def test_each_single_value(self):
        right = built(Wood(join), ["a", "b", "c"])
        for name, wrong in (
            ("size", 2), ("size", 4), ("height", 1), ("height", 3), ("total", "cba"), ("total", "ab"),
            ("total", None), ("total", 7), ("back", "abc"), ("back", None), ("back", ""), ("about", True),
            ("thing", "x"), ("left", None), ("right", None), ("left", right[4]), ("right", right),
        ):
            with self.subTest(name=name, wrong=wrong):
                self.assertIs(is_right(changed(right, **{name: wrong}), join), False)

    def test_sums_exchanged_stay_right_where_they_are_the_same(self):
        make = built(Wood(join), ["a", "b", "a"])
        self.assertIs(is_right(changed(make, total=make[8], back=make[7]), join), True)
        self.assertIs(is_right(changed(make, about=True), join), True)
        self.assertIs(is_right(changed(built(Wood(), [1, 2, 3]), about=True)), True)

    def test_a_wrong_value_deep_within_that_all_above_agrees_with(self):
        for add in (None, join):
            for name, wrong in (("size", 2), ("height", 2), ("total", "zz"), ("back", "zz")):
                wood = Wood(add)
                make = changed(wood.node(None, "a", None), **{name: wrong})
                for level in range(4):
                    side = lean(wood, height(make), lambda: "b")
                    make = wood.node(make, "c", side) if level % 2 else wood.node(side, "c", make)
                    with self.subTest(add=add, name=name, level=level):
                        self.assertIs(is_right(make, add), False)
                        self.assertIs(is_right(wood.turned(make), add), False)

    def test_heights_apart_by_more_than_one(self):
        for count in (3, 4, 5, 59, 60):
            for add in (None, join):
                for side in (2, 4):
                    make = None
                    for k in range(1, count + 1):
                        left, right = (make, None) if side == 2 else (None, make)
                        sums = (None, None) if add is None else (k, k)
                        make = (k, False, left, 1, right, k, k) + sums
                    with self.subTest(count=count, side=side):
                        self.assertIs(is_right(make, add), False)
                        self.assertIs(is_right(changed(make, about=True), add), False)
                        self.assertIs(is_right(changed(make, height=2), add), False)

    def test_heights_apart_within_while_the_node_above_is_in_balance(self):
        wood = Wood()
        two = wood.node(wood.node(None, 1, None), 1, None)
        three = (9, False, two, 1, None, 3, 3, None, None)
        self.assertIs(is_right(two), True)
        self.assertIs(is_right(three), False)
        self.assertIs(is_right(wood.node(three, 1, two)), False)
        self.assertIs(is_right(wood.node(two, 1, three)), False)

    def test_a_low_height_claimed_does_not_hide_a_high_make(self):
        wood = Wood()
        high = changed(lean(wood, 4), height=1)
        self.assertIs(is_right(wood.node(high, 1, None)), False)
        self.assertIs(is_right(wood.node(None, 1, high)), False)

    def test_sums_where_there_is_no_way_of_adding(self):
        for add, wood, make in samples():
            if make is not None:
                self.assertIs(is_right(make), add is None)

    def test_no_sums_where_there_is_a_way_of_adding(self):
        for count in (1, 2, 3, 7):
            make = built(Wood(), letters(count))
            self.assertIs(is_right(make, join), False)
            self.assertIs(is_right(changed(make, total="abcdefg"[:count], back="gfedcba"[-count:]), join), count == 1)

    def test_another_way_of_adding(self):
        make = built(Wood(join), letters(5))
        self.assertIs(is_right(make, last), False)

    def test_a_truth_is_no_whole_number_and_a_whole_number_no_truth(self):
        make = (0, False, None, "a", None, 1, 1, None, None)
        self.assertIs(is_right(make), True)
        for name, wrong in (("number", True), ("number", False), ("number", None), ("number", "0"),
                            ("size", True), ("height", True), ("about", 0), ("about", 1), ("about", None)):
            with self.subTest(name=name, wrong=wrong):
                self.assertIs(is_right(changed(make, **{name: wrong})), False)

    def test_what_is_no_make_is_not_right(self):
        make = (0, False, None, "a", None, 1, 1, None, None)
        for wrong in ((), 5, "a", list(make), make[:8], make + (None,), changed(make, left=5), changed(make, right=())):
            with self.subTest(wrong=wrong):
                self.assertIs(is_right(wrong), False)


if __name__ == "__main__":
    unittest.main()
