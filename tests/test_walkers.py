"""Walkers: the three ways, each with every deed done while it goes, alone and several in turns."""

import random
import unittest

from helper import Case, PlainShelf, PlainWalker, join, letters, plain_things
from ownshelf.errors import Changed, NoMore, NoPlace, TooMany
from ownshelf.rows import make_of
from ownshelf.shelves import Shelf
from ownshelf.walkers import AsItStands, AsItStood, Strict, Walker
from ownshelf.wood import Wood

WAYS = {"stood": AsItStood, "stands": AsItStands, "strict": Strict}


def stepped(way, things, steps):
    """A shelf of these things and a walker of it that has gone so many steps."""
    shelf = Shelf(Wood(join), list(things))
    walker = way(shelf)
    for step in range(steps):
        walker.step()
    return shelf, walker


def every_deed(shelf, count):
    """Pairs of a deed as it is told and a function that does it, of a shelf with so many things."""
    wood = shelf.wood
    found = []
    for place in range(count + 1):
        found.append((("put", place), lambda place=place: shelf.put(place, "X")))
        found.append((("cut", place), lambda place=place: shelf.cut(place)))
        for end in range(place, count + 1):
            found.append((("turned", place, end), lambda place=place, end=end: shelf.turned(place, end)))
    for place in range(count):
        found.append((("out", place), lambda place=place: shelf.out(place)))
        found.append((("swap", place), lambda place=place: shelf.swap(place, "Y")))
    for behind in ([], ["V", "W"]):
        found.append((("laid", len(behind)), lambda behind=behind: shelf.laid(Shelf(wood, behind))))
        found.append((("back", len(behind)), lambda behind=behind: shelf.back(make_of(wood, behind))))
    found.append((("laid", count), lambda: shelf.laid(shelf)))
    found.append((("back", count), lambda: shelf.back(shelf.make())))
    return found


def deeds_that_are_there(count):
    return range(len(every_deed(Shelf(Wood(), letters(count)), count)))


class WalkerCase(Case):
    def assert_told(self, walker, things):
        """It tells just these and then none more, again and again."""
        for thing in things:
            self.assertIs(walker.more(), True)
            self.assertIs(walker.more(), True)
            self.assertEqual(walker.step(), thing)
        for turn in range(3):
            self.assertIs(walker.more(), False)
            self.assert_no_more(walker)

    def assert_no_more(self, walker):
        with self.assertRaises(NoMore) as caught:
            walker.step()
        self.assertIs(caught.exception.__class__, NoMore)

    def assert_changed(self, walker, deed):
        for ask in (walker.more, walker.step, walker.step, walker.more):
            with self.assertRaises(Changed) as caught:
                ask()
            self.assertIs(caught.exception.__class__, Changed)
            self.assertEqual(caught.exception.deed, deed)
            self.assertIs(caught.exception.deed.__class__, tuple)


class WithoutDeeds(WalkerCase):
    def test_each_way_stands_under_walker(self):
        for way in WAYS.values():
            self.assertEqual(way.__bases__, (Walker,))

    def test_all_things_in_their_order(self):
        for way in WAYS.values():
            for count in (0, 1, 2, 9, 1000, 2000):
                things = letters(count)
                shelf = Shelf(Wood(), things)
                self.assert_told(way(shelf), things)
                shelf.turned(count // 3, count)
                held, deeds = shelf.make(), shelf.deeds()
                self.assert_told(way(shelf), things[:count // 3] + things[count // 3:][::-1])
                self.assertIs(shelf.make(), held)
                self.assertEqual(shelf.deeds(), deeds)

    def test_stepping_without_asking_for_more(self):
        for way in WAYS.values():
            walker = way(Shelf(Wood(), ["a", 7]))
            self.assertEqual([walker.step(), walker.step()], ["a", 7])
            for turn in range(3):
                self.assert_no_more(walker)

    def test_walking_makes_no_node(self):
        for way in WAYS.values():
            wood = Wood(join)
            shelf = Shelf(wood, letters(50))
            shelf.turned(5, 40)
            made = wood.made()
            self.assert_told(way(shelf), shelf.things())
            self.assertEqual(wood.made(), made)

    def test_deeds_done_ahead_of_the_begin_do_not_count(self):
        for way in WAYS.values():
            shelf = Shelf(Wood(), list("abcdef"))
            early = AsItStands(shelf)
            early.step()
            shelf.put(0, "x")
            shelf.turned(1, 4)
            shelf.cut(5)
            self.assert_told(way(shelf), list("xcbad"))

    def test_what_is_refused_is_no_deed(self):
        for way in WAYS.values():
            shelf, walker = stepped(way, "abc", 1)
            for refused in (lambda: shelf.put(9, "x"), lambda: shelf.out(3), lambda: shelf.swap(-1, "x"),
                            lambda: shelf.turned(2, 1), lambda: shelf.cut(4)):
                self.assert_refused(shelf.wood, NoPlace, refused)
            self.assert_refused(shelf.wood, TooMany, shelf.laid, Shelf(shelf.wood, letters(1998)))
            self.assert_told(walker, ["b", "c"])

    def test_deeds_of_other_shelves_do_not_count(self):
        for way in WAYS.values():
            shelf, walker = stepped(way, "abcd", 1)
            other = Shelf(shelf.wood, list("xyz"))
            other.laid(shelf)
            other.back(shelf.make())
            other.put(0, "q")
            other.cut(2).out(0)
            self.assert_told(walker, list("bcd"))


class AsItStoodWays(WalkerCase):
    def test_every_deed_at_every_time(self):
        for count in (0, 1, 4):
            things = letters(count)
            for steps in range(count + 1):
                for which in deeds_that_are_there(count):
                    shelf, walker = stepped(AsItStood, things, steps)
                    told, do = every_deed(shelf, count)[which]
                    do()
                    self.assertEqual(shelf.deeds(), [told])
                    self.assert_told(walker, things[steps:])

    def test_many_deeds_between_the_steps(self):
        shelf, walker = stepped(AsItStood, "abcdef", 0)
        for thing in "abcdef":
            self.assertEqual(walker.step(), thing)
            shelf.turned(0, 3)
            shelf.out(0)
            shelf.laid(shelf)
            shelf.swap(1, "x")
        self.assert_told(walker, [])
        shelf.back(None)
        self.assert_told(walker, [])


class AsItStandsWays(WalkerCase):
    def test_put_ahead_of_the_mark_at_it_and_behind_it(self):
        for place, left in ((0, "cd"), (1, "cd"), (2, "Xcd"), (3, "cXd"), (4, "cdX")):
            shelf, walker = stepped(AsItStands, "abcd", 2)
            shelf.put(place, "X")
            self.assert_told(walker, list(left))

    def test_put_at_the_begin_and_at_the_end(self):
        shelf, walker = stepped(AsItStands, "ab", 0)
        shelf.put(0, "X")
        self.assert_told(walker, list("Xab"))
        shelf.put(3, "Y")
        self.assert_told(walker, ["Y"])
        shelf.put(3, "Z")
        self.assert_told(walker, [])

    def test_out_ahead_of_the_mark_at_it_and_behind_it(self):
        for place, left in ((0, "cd"), (1, "cd"), (2, "d"), (3, "c")):
            shelf, walker = stepped(AsItStands, "abcd", 2)
            shelf.out(place)
            self.assert_told(walker, list(left))

    def test_out_till_nothing_is_left(self):
        shelf, walker = stepped(AsItStands, "abc", 2)
        for turn in range(3):
            shelf.out(0)
        self.assert_told(walker, [])
        shelf.put(0, "X")
        self.assert_told(walker, ["X"])

    def test_swap_ahead_of_the_mark_at_it_and_behind_it(self):
        for place, left in ((0, "cd"), (1, "cd"), (2, "Yd"), (3, "cY")):
            shelf, walker = stepped(AsItStands, "abcd", 2)
            shelf.swap(place, "Y")
            self.assert_told(walker, list(left))

    def test_stretches_turned_about(self):
        for start, end, left in (
            (0, 3, "defg"), (0, 2, "defg"), (1, 3, "defg"),         # beside the mark, ahead, or ending at it
            (3, 5, "edfg"), (3, 7, "gfed"), (4, 7, "dgfe"),         # beginning at it, or beside it, behind
            (0, 4, "efg"), (2, 4, "efg"), (1, 6, "g"), (2, 7, ""), (0, 7, ""),     # with it within
            (0, 0, "defg"), (3, 3, "defg"), (7, 7, "defg"), (3, 4, "defg"), (2, 3, "defg"),
        ):
            shelf, walker = stepped(AsItStands, "abcdefg", 3)
            shelf.turned(start, end)
            self.assert_told(walker, list(left))

    def test_stretches_turned_about_at_the_begin_and_at_the_end(self):
        shelf, walker = stepped(AsItStands, "abc", 0)
        shelf.turned(0, 3)
        self.assert_told(walker, list("cba"))
        shelf.turned(0, 3)
        self.assert_told(walker, [])

    def test_cuts_ahead_of_the_mark_at_it_and_behind_it(self):
        for place, left in ((0, ""), (1, ""), (2, ""), (3, "c"), (4, "cd")):
            shelf, walker = stepped(AsItStands, "abcd", 2)
            others = shelf.cut(place)
            self.assert_told(walker, list(left))
            self.assert_told(AsItStands(others), list("abcd")[place:])
            shelf.laid(others)
            self.assert_told(walker, list("abcd")[place:])

    def test_the_mark_stands_at_the_size_left_behind_a_cut(self):
        for place in (0, 1, 2):
            shelf, walker = stepped(AsItStands, "abcd", 3)
            shelf.cut(place)
            shelf.put(place, "X")
            self.assert_told(walker, ["X"])

    def test_laid_behind(self):
        for steps in range(3):
            shelf, walker = stepped(AsItStands, "ab", steps)
            shelf.laid(Shelf(shelf.wood, ["X", "Y"]))
            self.assert_told(walker, list("ab")[steps:] + ["X", "Y"])
            shelf.laid(Shelf(shelf.wood))
            self.assert_told(walker, [])
            shelf.laid(shelf)
            self.assert_told(walker, list("abXY"))

    def test_gone_back(self):
        shelf, walker = stepped(AsItStands, "abcd", 2)
        held = shelf.make()
        shelf.back(held)
        self.assert_told(walker, [])
        shelf.put(4, "X")
        self.assert_told(walker, ["X"])
        shelf.back(None)
        self.assert_told(walker, [])
        shelf.laid(Shelf(shelf.wood, ["Y", "Z"]))
        self.assert_told(walker, ["Y", "Z"])
        shelf.back(held)
        shelf.out(1)
        self.assert_told(walker, [])
        shelf.put(3, "V")
        self.assert_told(walker, ["V"])

    def test_several_deeds_between_two_steps_count_in_their_order(self):
        shelf, walker = stepped(AsItStands, "abcdef", 3)
        shelf.put(3, "X")
        shelf.turned(2, 4)
        shelf.out(0)
        self.assert_told(walker, ["d", "e", "f"])
        shelf, walker = stepped(AsItStands, "abcdef", 3)
        shelf.turned(2, 4)
        shelf.put(3, "X")
        shelf.cut(3)
        shelf.laid(Shelf(shelf.wood, ["Y"]))
        self.assert_told(walker, ["Y"])

    def test_no_matter_when_it_is_asked(self):
        for seed in range(30):
            chance = random.Random(seed)
            shelf = Shelf(Wood(), letters(8))
            asked, unasked = AsItStands(shelf), AsItStands(shelf)
            for walker in (asked, unasked):
                walker.step()
                walker.step()
                walker.step()
            for turn in range(12):
                chance.choice(every_deed(shelf, len(shelf.things()))[:-2])[1]()
                asked.more()
            left = [asked.step() for turn in range(len(shelf.things())) if asked.more()]
            self.assert_told(unasked, left)

    def test_every_deed_at_every_time(self):
        for count in (0, 1, 4, 5):
            for steps in range(count + 1):
                for which in deeds_that_are_there(count):
                    shelf, walker = stepped(AsItStands, letters(count), steps)
                    told, do = every_deed(shelf, count)[which]
                    do()
                    plain = PlainShelf(shelf.things())
                    twin = PlainWalker(plain, "stands")
                    twin.mark = steps
                    twin.mark = twin.moved(*told)
                    self.assert_told(walker, twin.left())

    def test_no_thing_is_told_twice_but_such_as_came_anew(self):
        for seed in range(60):
            chance = random.Random(seed)
            shelf = Shelf(Wood(), list(range(12)))
            walker = AsItStands(shelf)
            fresh, told, kept = 100, [], [shelf.make()]
            for turn in range(60):
                things = shelf.things()
                place = chance.randrange(len(things) + 1)
                deed = chance.choice(("step", "step", "step", "put", "out", "swap", "turned", "laid", "cut", "back"))
                if deed == "step" and walker.more():
                    told.append(walker.step())
                elif deed == "put":
                    shelf.put(place, fresh)
                elif deed == "out" and place < len(things):
                    shelf.out(place)
                elif deed == "swap" and place < len(things):
                    shelf.swap(place, fresh)
                elif deed == "turned":
                    shelf.turned(min(place, turn % 7), place)
                elif deed == "laid":
                    shelf.laid(Shelf(shelf.wood, [fresh, fresh + 1]))
                elif deed == "cut" and turn % 5 == 0:
                    shelf.cut(place)
                elif deed == "back" and turn % 5 == 0:
                    shelf.back(chance.choice(kept))
                fresh += 2
                kept.append(shelf.make())
            self.assertEqual(len(told), len(set(told)))


class StrictWays(WalkerCase):
    def test_every_deed_at_every_time(self):
        for count in (0, 1, 4):
            for steps in range(count + 1):
                for which in deeds_that_are_there(count):
                    shelf, walker = stepped(Strict, letters(count), steps)
                    told, do = every_deed(shelf, count)[which]
                    do()
                    self.assert_changed(walker, told)

    def test_the_first_of_the_deeds_done_since_it_began(self):
        shelf = Shelf(Wood(), list("abc"))
        early = Strict(shelf)
        shelf.put(1, "x")
        walker = Strict(shelf)
        self.assertEqual(walker.step(), "a")
        shelf.turned(0, 0)
        shelf.out(2)
        late = Strict(shelf)
        self.assert_changed(early, ("put", 1))
        self.assert_changed(walker, ("turned", 0, 0))
        self.assert_told(late, ["a", "x", "c"])
        shelf.back(None)
        self.assert_changed(early, ("put", 1))
        self.assert_changed(walker, ("turned", 0, 0))
        self.assert_changed(late, ("back", 0))

    def test_also_where_there_would_be_none_more(self):
        shelf = Shelf(Wood(), ["a"])
        walker = Strict(shelf)
        self.assert_told(walker, ["a"])
        shelf.laid(Shelf(shelf.wood))
        self.assert_changed(walker, ("laid", 0))
        shelf = Shelf(Wood())
        walker = Strict(shelf)
        shelf.cut(0)
        self.assert_changed(walker, ("cut", 0))

    def test_going_back_to_what_stood_does_not_mend_it(self):
        shelf, walker = stepped(Strict, "abc", 1)
        held = shelf.make()
        shelf.back(held)
        self.assert_changed(walker, ("back", 3))


class SeveralWalkers(WalkerCase):
    def test_by_turns_of_one_shelf(self):
        shelf = Shelf(Wood(), list("abc"))
        walkers = [way(shelf) for way in WAYS.values() for turn in range(2)]
        for thing in "abc":
            for walker in walkers:
                self.assertIs(walker.more(), True)
                self.assertEqual(walker.step(), thing)
        for walker in walkers:
            self.assert_told(walker, [])

    def test_one_is_not_moved_by_another_one(self):
        shelf = Shelf(Wood(), list("abcdef"))
        ahead, behind, stood, strict = AsItStands(shelf), AsItStands(shelf), AsItStood(shelf), Strict(shelf)
        for turn in range(4):
            ahead.step()
        self.assertEqual(behind.step(), "a")
        self.assertEqual(strict.step(), "a")
        shelf.put(2, "X")
        self.assert_told(ahead, ["e", "f"])
        self.assert_told(stood, list("abcdef"))
        self.assert_changed(strict, ("put", 2))
        self.assert_told(behind, list("bXcdef"))

    def run_in_turns(self, count, turns, seed):
        """Shelves and walkers beside plain ones: deeds, steps and new walkers by chance."""
        chance = random.Random(seed)
        wood = Wood(join if seed % 2 else None)
        shelves = [(Shelf(wood, letters(count)), PlainShelf(letters(count))) for turn in range(2)]
        walkers, kept = [], [None]
        for turn in range(turns):
            shelf, plain = chance.choice(shelves)
            if turn % 6 == 0:
                way = chance.choice(sorted(WAYS))
                walkers.append((WAYS[way](shelf), PlainWalker(plain, way)))
            deed = chance.choice(("put", "out", "swap", "turned", "turned", "laid", "cut", "back") + ("step",) * 24)
            if deed != "step":
                self.do_both(chance, deed, shelf, plain, kept, shelves)
            for walker, twin in chance.sample(walkers, min(6, len(walkers))):
                self.assert_alike(walker.more, twin.more)
                self.assert_alike(walker.step, twin.step)
        for walker, twin in walkers:
            while self.assert_alike(walker.step, twin.step)[0] == "told":
                self.assert_alike(walker.more, twin.more)

    def do_both(self, chance, deed, shelf, plain, kept, shelves):
        count = len(plain.row)
        place = chance.randrange(count + 1)
        asked = {"put": (place, "p"), "out": (place,), "swap": (place, "s"), "cut": (place,)}.get(deed)
        if deed == "turned":
            asked = sorted((place, chance.randrange(count + 1)))
        both = [asked, asked]
        if deed == "laid":
            both = [(each,) for each in chance.choice(shelves)]
        if deed == "back":
            make = chance.choice(kept)
            both = [(make,), (plain_things(make),)]
        told = self.assert_alike(lambda: self.ask(shelf, deed, both[0]), lambda: self.ask(plain, deed, both[1]))
        kept.append(shelf.make())
        self.assertEqual(shelf.things(), plain.row)
        return told

    def ask(self, shelf, deed, asked):
        told = getattr(shelf, deed)(*asked)
        return None if deed == "cut" else told

    def test_in_turns_by_chance(self):
        for seed in range(12):
            self.run_in_turns(10, 300, seed)

    def test_in_turns_by_chance_of_many_things(self):
        self.run_in_turns(1000, 150, 50)
        self.run_in_turns(2000, 150, 51)


if __name__ == "__main__":
    unittest.main()
