"""Shelves: each deed beside a plain list, the deeds told, and what is refused."""

import random
import unittest

from helper import Case, PlainShelf, join, lean_mixed, letters, numbers_of, plain_things, zoo
from ownshelf.errors import NoPlace, TooMany
from ownshelf.nodes import size
from ownshelf.rows import make_of, turned_part
from ownshelf.shelves import Shelf
from ownshelf.wood import Wood

COUNTS = (0, 1, 2, 3, 8, 1000, 2000)


def some_of(places, seed=0):
    places = list(places)
    if len(places) < 12:
        return places
    return places[:2] + places[-2:] + random.Random(seed).sample(places, 3)


def some_stretches(count):
    ends = some_of(range(count + 1))
    return [(start, end) for start in ends for end in ends if start <= end]


class ShelfCase(Case):
    def assert_shelf(self, shelf, things, deeds):
        self.assert_make(shelf.wood, shelf.make(), things)
        self.assertEqual(shelf.things(), things)
        self.assertEqual(shelf.deeds(), deeds)
        for told in shelf.deeds():
            self.assertIs(told.__class__, tuple)

    def assert_refuses(self, shelf, error, deed, *asked):
        """Refused, no deed and no change."""
        held, deeds = shelf.make(), shelf.deeds()
        self.assert_refused(shelf.wood, error, deed, *asked)
        self.assertIs(shelf.make(), held)
        self.assertEqual(shelf.deeds(), deeds)

    def each_shelf(self, counts=COUNTS):
        """Triples of a wood, a make to go back to and its things; large ones without stretches turned within."""
        for count in counts:
            for add in (None, join):
                wood = Wood(add)
                things = letters(count)
                found = zoo(wood, things, count) if count < 100 else [make_of(wood, things)]
                for make in found:
                    yield wood, make, plain_things(make)

    def holding(self, wood, make):
        shelf = Shelf(wood)
        shelf.back(make)
        return shelf


class NewShelves(ShelfCase):
    def test_of_none_and_of_no_things(self):
        wood = Wood()
        for shelf in (Shelf(wood), Shelf(wood, None), Shelf(wood, [])):
            self.assertIsNone(shelf.make())
            self.assert_shelf(shelf, [], [])
        self.assertEqual(wood.made(), 0)

    def test_of_a_list(self):
        for count in COUNTS:
            for add in (None, join):
                wood = Wood(add)
                self.assert_shelf(Shelf(wood, letters(count)), letters(count), [])
                self.assert_shelf(Shelf(wood, things=letters(count)), letters(count), [])

    def test_of_numbers(self):
        wood = Wood(join)
        things = [10 ** 59, -(10 ** 59), 0, -1]
        shelf = Shelf(wood, things)
        self.assert_shelf(shelf, things, [])
        self.assertEqual(shelf.make()[7], -1)

    def test_of_too_many(self):
        wood = Wood()
        self.assert_refused(wood, TooMany, Shelf, wood, letters(2001))
        self.assert_refused(wood, TooMany, Shelf, wood, letters(5000))

    def test_the_list_handed_in_stays_as_it_is_and_its_asker_s_own(self):
        wood = Wood()
        things = ["a", "b", "c"]
        shelf = Shelf(wood, things)
        held = shelf.make()
        self.assertEqual(things, ["a", "b", "c"])
        shelf.put(0, "x")
        shelf.out(2)
        shelf.turned(0, 3)
        self.assertEqual(things, ["a", "b", "c"])
        things.append("d")
        things[0] = "y"
        self.assert_shelf(shelf, ["c", "a", "x"], [("put", 0), ("out", 2), ("turned", 0, 3)])
        shelf.back(held)
        self.assertEqual(shelf.things(), ["a", "b", "c"])

    def test_told_lists_are_the_asker_s_own(self):
        wood = Wood()
        shelf = Shelf(wood, ["a", "b"])
        shelf.put(1, "c")
        things, deeds = shelf.things(), shelf.deeds()
        shelf.put(0, "d")
        shelf.out(1)
        self.assertEqual((things, deeds), (["a", "c", "b"], [("put", 1)]))
        held = shelf.make()
        for told in (things, deeds, shelf.things(), shelf.deeds()):
            told.append("z")
            told[0] = "y"
            told.clear()
        self.assertIs(shelf.make(), held)
        self.assert_shelf(shelf, ["d", "c", "b"], [("put", 1), ("put", 0), ("out", 1)])
        self.assertIsNot(shelf.things(), shelf.things())
        self.assertIsNot(shelf.deeds(), shelf.deeds())


class Deeds(ShelfCase):
    def test_put(self):
        for wood, make, things in self.each_shelf(COUNTS[:-1] + (1999,)):
            for place in some_of(range(len(things) + 1)):
                shelf = self.holding(wood, make)
                self.assertIsNone(shelf.put(place, "new"))
                now = things[:place] + ["new"] + things[place:]
                self.assert_shelf(shelf, now, [("back", len(things)), ("put", place)])
                self.assert_few_new(24, [shelf.make()], [make])

    def test_out(self):
        for wood, make, things in self.each_shelf():
            for place in some_of(range(len(things))):
                shelf = self.holding(wood, make)
                self.assertEqual(shelf.out(place), things[place])
                now = things[:place] + things[place + 1:]
                self.assert_shelf(shelf, now, [("back", len(things)), ("out", place)])
                self.assert_few_new(24, [shelf.make()], [make])

    def test_swap(self):
        for wood, make, things in self.each_shelf():
            for place in some_of(range(len(things))):
                shelf = self.holding(wood, make)
                self.assertIsNone(shelf.swap(place, "new"))
                now = things[:place] + ["new"] + things[place + 1:]
                self.assert_shelf(shelf, now, [("back", len(things)), ("swap", place)])
                self.assert_few_new(24, [shelf.make()], [make])

    def test_turned(self):
        for wood, make, things in self.each_shelf():
            for start, end in some_stretches(len(things)):
                shelf = self.holding(wood, make)
                self.assertIsNone(shelf.turned(start, end))
                now = things[:start] + things[start:end][::-1] + things[end:]
                self.assert_shelf(shelf, now, [("back", len(things)), ("turned", start, end)])

    def test_cut(self):
        for wood, make, things in self.each_shelf():
            for place in some_of(range(len(things) + 1)):
                shelf = self.holding(wood, make)
                others = shelf.cut(place)
                self.assertIs(others.__class__, Shelf)
                self.assert_shelf(shelf, things[:place], [("back", len(things)), ("cut", place)])
                self.assert_shelf(others, things[place:], [])
                self.assert_few_new(60, [shelf.make(), others.make()], [make])

    def test_laid(self):
        for count in (0, 1, 2, 8, 1000):
            for behind in (0, 1, 2, 8, 1000):
                wood = Wood(join)
                shelf, other = Shelf(wood, letters(count)), Shelf(wood, letters(behind))
                other.turned(0, behind)
                ahead = [shelf.make(), other.make()]
                self.assertIsNone(shelf.laid(other))
                now = letters(count) + letters(behind)[::-1]
                self.assert_shelf(shelf, now, [("laid", behind)])
                self.assert_few_new(24, [shelf.make()], ahead)
                self.assertIs(other.make(), ahead[1])
                self.assert_shelf(other, letters(behind)[::-1], [("turned", 0, behind)])

    def test_laid_behind_itself(self):
        for count in (0, 1, 2, 7, 500, 1000):
            wood = Wood(join)
            shelf = Shelf(wood, letters(count))
            held = shelf.make()
            shelf.laid(shelf)
            self.assert_shelf(shelf, letters(count) * 2, [("laid", count)])
            self.assert_few_new(24, [shelf.make()], [held])
        shelf = Shelf(Wood(), ["a", "b"])
        shelf.laid(shelf)
        shelf.laid(shelf)
        shelf.swap(1, "c")
        self.assert_shelf(shelf, list("acababab"), [("laid", 2), ("laid", 4), ("swap", 1)])

    def test_of_lean_makes_but_few_nodes_are_new(self):
        for levels in range(15):
            for seed in range(2):
                wood = Wood()
                make = lean_mixed(wood, levels, random.Random(seed))
                for place in some_of(range(size(make)), seed):
                    for deed in (("put", place, 2), ("out", place), ("swap", place, 2)):
                        shelf = self.holding(wood, make)
                        getattr(shelf, deed[0])(*deed[1:])
                        self.assert_few_new(24, [shelf.make()], [make])
                    shelf = self.holding(wood, make)
                    others = shelf.cut(place)
                    self.assert_few_new(60, [shelf.make(), others.make()], [make])
                    held = [shelf.make(), others.make()]
                    others.laid(shelf)
                    self.assert_few_new(24, [others.make()], held)

    def test_both_shelves_of_a_cut_go_on_by_themselves(self):
        wood = Wood(join)
        shelf = Shelf(wood, list("abcdef"))
        others = shelf.cut(2)
        others.put(0, "x")
        self.assert_shelf(shelf, list("ab"), [("cut", 2)])
        shelf.out(1)
        shelf.put(0, "y")
        self.assert_shelf(others, list("xcdef"), [("put", 0)])
        third = others.cut(3)
        third.laid(shelf)
        others.laid(others)
        self.assert_shelf(shelf, list("ya"), [("cut", 2), ("out", 1), ("put", 0)])
        self.assert_shelf(others, list("xcdxcd"), [("put", 0), ("cut", 3), ("laid", 3)])
        self.assert_shelf(third, list("efya"), [("laid", 2)])

    def test_deeds_that_leave_the_things_as_they_were(self):
        for count in (0, 1, 5):
            wood = Wood(join)
            shelf, empty = Shelf(wood, letters(count)), Shelf(wood)
            deeds = []
            for place in range(count + 1):
                shelf.turned(place, place)
                deeds.append(("turned", place, place))
            for place in range(count):
                shelf.turned(place, place + 1)
                shelf.swap(place, letters(count)[place])
                deeds += [("turned", place, place + 1), ("swap", place)]
            shelf.laid(empty)
            behind = shelf.cut(count)
            held = shelf.make()
            shelf.back(held)
            self.assertIs(shelf.make(), held)
            deeds += [("laid", 0), ("cut", count), ("back", count)]
            self.assert_shelf(shelf, letters(count), deeds)
            self.assert_shelf(behind, [], [])
            self.assert_shelf(empty, [], [])

    def test_an_empty_shelf_laid_behind_itself_is_a_deed(self):
        shelf = Shelf(Wood())
        shelf.laid(shelf)
        self.assert_shelf(shelf, [], [("laid", 0)])

    def test_back_to_any_make_of_the_wood(self):
        wood = Wood(join)
        shelf, other = Shelf(wood, list("abc")), Shelf(wood, list("xy"))
        first = shelf.make()
        shelf.put(3, "d")
        second = shelf.make()
        shelf.out(0)
        bare = wood.node(None, "n", None)
        turned = turned_part(wood, wood.turned(second), 1, 3)
        deeds = shelf.deeds()
        for make in (first, second, second, other.make(), None, None, bare, turned, first):
            made = wood.made()
            self.assertIsNone(shelf.back(make))
            self.assertIs(shelf.make(), make)
            self.assertEqual(wood.made(), made)
            deeds.append(("back", len(plain_things(make))))
            self.assert_shelf(shelf, plain_things(make), deeds)
        shelf.back(other.make())
        shelf.put(0, "z")
        self.assert_shelf(other, list("xy"), [])
        other.back(first)
        other.swap(0, "q")
        self.assertEqual(plain_things(first), list("abc"))
        self.assert_shelf(other, list("qbc"), [("back", 3), ("swap", 0)])


class Refused(ShelfCase):
    def test_places_that_are_not_there(self):
        for count in (0, 1, 2, 9, 1000, 2000):
            wood = Wood(join)
            shelf = Shelf(wood, letters(count))
            shelf.turned(0, count)
            for place in (-1, -count - 1, count + 1, count + 2, 10 ** 60, -(10 ** 5000)):
                self.assert_refuses(shelf, NoPlace, shelf.put, place, "x")
                self.assert_refuses(shelf, NoPlace, shelf.cut, place)
            for place in (-1, -count - 1, count, count + 1, 10 ** 60, 10 ** 5000):
                self.assert_refuses(shelf, NoPlace, shelf.out, place)
                self.assert_refuses(shelf, NoPlace, shelf.swap, place, "x")
            for start, end in ((-1, 0), (-1, count), (0, count + 1), (count + 1, count + 1), (1, 0), (count, -1)):
                self.assert_refuses(shelf, NoPlace, shelf.turned, start, end)
            self.assert_shelf(shelf, letters(count)[::-1], [("turned", 0, count)])

    def test_too_many(self):
        wood = Wood(join)
        full, one, half = Shelf(wood, letters(2000)), Shelf(wood, ["x"]), Shelf(wood, letters(1001))
        for place in (0, 1, 777, 2000):
            self.assert_refuses(full, TooMany, full.put, place, "x")
        self.assert_refuses(full, NoPlace, full.put, 2001, "x")
        self.assert_refuses(full, NoPlace, full.put, -1, "x")
        self.assert_refuses(full, TooMany, full.laid, one)
        self.assert_refuses(one, TooMany, one.laid, full)
        self.assert_refuses(full, TooMany, full.laid, full)
        self.assert_refuses(half, TooMany, half.laid, half)
        for shelf in (full, one, half):
            self.assertEqual(shelf.deeds(), [])
        full.laid(Shelf(wood))
        full.swap(1999, "y")
        full.turned(0, 2000)
        self.assertEqual(full.out(0), "y")
        full.laid(one)
        self.assert_refuses(full, TooMany, full.put, 3, "x")
        self.assert_shelf(full, letters(1999)[::-1] + ["x"],
                          [("laid", 0), ("swap", 1999), ("turned", 0, 2000), ("out", 0), ("laid", 1)])

    def test_two_thousand_are_not_too_many(self):
        wood = Wood()
        shelf = Shelf(wood, letters(1000))
        shelf.laid(shelf)
        self.assert_shelf(shelf, letters(1000) * 2, [("laid", 1000)])
        shelf.out(5)
        shelf.put(1999, "x")
        self.assertEqual(len(shelf.things()), 2000)


class ManyDeeds(ShelfCase):
    def asked_by_chance(self, chance, count, kept, shelves):
        """A deed's name and what is asked of a shelf and of its plain row; some are to be refused."""
        name = chance.choice(("put", "put", "out", "swap", "turned", "turned", "laid", "cut", "back"))
        place = chance.randrange(-1, count + 2)
        if name in ("put", "swap"):
            thing = chance.choice("abcdef")
            return name, (place, thing), (place, thing)
        if name in ("out", "cut"):
            return name, (place,), (place,)
        if name == "turned":
            stretch = sorted(chance.randrange(count + 1) for side in range(2))
            return name, stretch, stretch
        if name == "laid":
            other = chance.randrange(len(shelves))
            return name, (shelves[other][0],), (shelves[other][1],)
        make = chance.choice(kept)
        return name, (make,), (plain_things(make),)

    def run_of_deeds(self, add, counts, turns, seed):
        chance = random.Random(seed)
        wood = Wood(add)
        shelves = []
        for count in counts:
            shelves.append((Shelf(wood, letters(count)), PlainShelf(letters(count))))
        kept = [None]
        for turn in range(turns):
            shelf, plain = chance.choice(shelves)
            name, mine, others = self.asked_by_chance(chance, len(plain.row), kept, shelves)
            held = [each.make() for each, row in shelves]
            ahead = [shelf.make()] + ([mine[0].make()] if name == "laid" else [])
            told = [None, None]

            def done(at, whom, asked):
                told[at] = getattr(whom, name)(*asked)
                return None if name == "cut" else told[at]

            answer = self.assert_alike(lambda: done(0, shelf, mine), lambda: done(1, plain, others))
            self.assert_shelf(shelf, plain.row, plain.done)
            self.assert_only_this_one_changed(shelves, held, shelf)
            behind = [shelf.make()]
            if name == "cut" and answer[0] == "told":
                behind.append(told[0].make())
                self.assert_shelf(told[0], told[1].row, [])
                shelves[chance.randrange(len(shelves))] = tuple(told)
            if name != "turned" and name != "back":
                self.assert_few_new(60 if name == "cut" else 24, behind, ahead)
            kept.append(shelf.make())

    def assert_only_this_one_changed(self, shelves, held, shelf):
        for each, make in zip(shelves, held):
            if each[0] is not shelf:
                self.assertIs(each[0].make(), make)

    def test_few_things(self):
        for seed in range(8):
            self.run_of_deeds(join if seed % 2 else None, (0, 1, 5), 400, seed)

    def test_about_a_thousand(self):
        self.run_of_deeds(join, (1000, 999), 60, 100)
        self.run_of_deeds(None, (1000, 1), 60, 101)

    def test_two_thousand(self):
        self.run_of_deeds(None, (2000, 3), 60, 102)

    def test_five_hundred_deeds_and_some_more(self):
        shelf = Shelf(Wood(join))
        row = []
        for turn in range(260):
            shelf.put(turn // 2, "a")
            shelf.swap(turn // 2, "b")
            row.insert(turn // 2, "b")
        self.assertEqual(len(shelf.deeds()), 520)
        self.assertEqual(shelf.deeds()[-1], ("swap", 129))
        self.assert_shelf(shelf, row, shelf.deeds())

    def test_old_makes_stand_beside_new_ones(self):
        wood = Wood(join)
        shelf = Shelf(wood, letters(40))
        kept = []
        for turn in range(120):
            kept.append((shelf.make(), shelf.things(), numbers_of(shelf.make())))
            shelf.turned(turn % 20, 20 + turn % 20)
            shelf.put(turn % 30, "x")
            shelf.out((turn * 7) % 40)
        for make, things, numbers in kept:
            self.assert_make(wood, make, things)
            self.assertEqual(numbers_of(make), numbers)
            shelf.back(make)
            self.assertEqual(shelf.things(), things)


if __name__ == "__main__":
    unittest.main()
