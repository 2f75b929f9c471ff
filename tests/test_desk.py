"""The desk: each row, each refusal, and rows by chance beside a desk of plain lists."""

import random
import re
import unittest

from helper import Case, PlainShelf, PlainWalker, letters
from ownshelf.desk import Desk
from ownshelf.errors import Changed, NoMore, NoName, NoNumber, NoPlace, NoRow, NoWay, TooMany

# The kinds of the words behind the first one: a shelf, make or walker that must stand, a word, a place, a way.
FORMS = {
    "put": "SPW", "swap": "SPW", "turn": "SPP", "lay": "SS", "cut": "SPW", "keep": "SW", "back": "SM",
    "walk": "SYW", "out": "SP", "show": "S", "sum": "SPP", "unlike": "SS", "step": "K",
}
NO_WORDS = ("", "A", "Ab", "aB", "a1", "1", "a-b", "a_b", "-", "\u00e4", "\u00df", "a\n", "\na", "a\t", "\u0430",
            "abcdefghi", "a" * 100, "a.", "\u00b5")
NO_PLACES = ("", "00", "01", "007", "0000", "+1", "-1", "-0", "a", "1a", "1.0", "10000", "00001", "1_0", "\u0661",
             "\u00b2", "1\n", "\n1", "\t1", "\uff11", "99999", "one", "0x1", "1e1")
NO_WAYS = ("", "Stood", "stand", "standss", "walk", "a", "0", "stood\n", "STRICT")


class PlainDesk:
    """A desk told the slow way."""

    def __init__(self):
        self.kept = {"S": {}, "M": {}, "K": {}}

    def say(self, row):
        if not isinstance(row, str):
            raise NoRow
        words = row.split(" ")
        form = "W" * (len(words) - 1) if words[0] == "shelf" and len(words) > 1 else FORMS.get(words[0])
        if form is None or len(words) != len(form) + 1:
            raise NoRow
        told = [self.read(kind, word) for kind, word in zip(form, words[1:])]
        return getattr(self, "do_" + words[0])(*told)

    def read(self, kind, word):
        if kind == "P":
            if not re.fullmatch("0|[1-9][0-9]{0,3}", word):
                raise NoNumber
            return int(word)
        if kind == "Y":
            if word not in ("stood", "stands", "strict"):
                raise NoWay
            return word
        if not re.fullmatch("[a-z]{1,8}", word):
            raise NoName
        if kind == "W":
            return word
        if word not in self.kept[kind]:
            raise NoName
        return self.kept[kind][word]

    def do_shelf(self, name, *things):
        self.kept["S"][name] = PlainShelf(things)
        return "ok"

    def do_put(self, shelf, place, thing):
        return shelf.put(place, thing) or "ok"

    def do_swap(self, shelf, place, thing):
        return shelf.swap(place, thing) or "ok"

    def do_turn(self, shelf, start, end):
        return shelf.turned(start, end) or "ok"

    def do_lay(self, shelf, other):
        return shelf.laid(other) or "ok"

    def do_cut(self, shelf, place, name):
        self.kept["S"][name] = shelf.cut(place)
        return "ok"

    def do_keep(self, shelf, name):
        self.kept["M"][name] = list(shelf.row)
        return "ok"

    def do_back(self, shelf, make):
        return shelf.back(make) or "ok"

    def do_walk(self, shelf, way, name):
        self.kept["K"][name] = PlainWalker(shelf, way)
        return "ok"

    def do_out(self, shelf, place):
        return shelf.out(place)

    def do_show(self, shelf):
        return " ".join(shelf.row) or "-"

    def do_sum(self, shelf, start, end):
        shelf.need(start <= end <= len(shelf.row))
        return "".join(shelf.row[start:end]) or "-"

    def do_unlike(self, shelf, other):
        for place in range(max(len(shelf.row), len(other.row))):
            if shelf.row[place:place + 1] != other.row[place:place + 1]:
                return str(place)
        return "-"

    def do_step(self, walker):
        try:
            return walker.step()
        except NoMore:
            return "-"
        except Changed as error:
            return " ".join(["changed"] + [str(part) for part in error.deed])


class DeskCase(Case):
    def setUp(self):
        self.desk = Desk()

    def say(self, *rows):
        return [self.desk.say(row) for row in rows]

    def assert_said(self, *pairs):
        for row, answer in pairs:
            told = self.desk.say(row)
            self.assertEqual(told, answer, row)
            self.assertIs(told.__class__, str, row)

    def assert_refuses(self, error, *rows):
        for row in rows:
            with self.assertRaises(error, msg=row) as caught:
                self.desk.say(row)
            self.assertIs(caught.exception.__class__, error, row)


class Rows(DeskCase):
    def test_shelf_and_show(self):
        self.assert_said(
            ("shelf a x y x", "ok"), ("show a", "x y x"), ("shelf b", "ok"), ("show b", "-"),
            ("shelf abcdefgh abcdefgh z", "ok"), ("show abcdefgh", "abcdefgh z"), ("show a", "x y x"),
            ("shelf a", "ok"), ("show a", "-"), ("shelf a q", "ok"), ("show a", "q"),
            ("shelf shelf shelf put", "ok"), ("show shelf", "shelf put"),
        )

    def test_put_swap_and_out(self):
        self.assert_said(
            ("shelf a", "ok"), ("put a 0 x", "ok"), ("put a 1 y", "ok"), ("put a 0 z", "ok"), ("show a", "z x y"),
            ("swap a 1 abcdefgh", "ok"), ("show a", "z abcdefgh y"), ("out a 1", "abcdefgh"), ("out a 1", "y"),
            ("show a", "z"), ("out a 0", "z"), ("show a", "-"),
        )

    def test_turn(self):
        self.assert_said(
            ("shelf a p q r s", "ok"), ("turn a 1 3", "ok"), ("show a", "p r q s"), ("turn a 0 4", "ok"),
            ("show a", "s q r p"), ("turn a 2 2", "ok"), ("turn a 4 4", "ok"), ("show a", "s q r p"),
        )

    def test_lay(self):
        self.assert_said(
            ("shelf a p q", "ok"), ("shelf b r", "ok"), ("lay a b", "ok"), ("show a", "p q r"), ("show b", "r"),
            ("lay a a", "ok"), ("show a", "p q r p q r"), ("put b 0 x", "ok"), ("show a", "p q r p q r"),
            ("shelf c", "ok"), ("lay c c", "ok"), ("lay c b", "ok"), ("show c", "x r"),
        )

    def test_cut(self):
        self.assert_said(
            ("shelf a p q r", "ok"), ("cut a 1 b", "ok"), ("show a", "p"), ("show b", "q r"),
            ("put b 0 x", "ok"), ("out a 0", "p"), ("show b", "x q r"), ("show a", "-"),
            ("cut b 3 a", "ok"), ("show a", "-"), ("cut b 0 a", "ok"), ("show a", "x q r"), ("show b", "-"),
        )

    def test_cut_to_the_same_name(self):
        self.say("shelf a p q r", "walk a stands w", "walk a strict s", "step w", "cut a 2 a")
        self.assert_said(
            ("show a", "r"), ("put a 0 x", "ok"), ("step w", "q"), ("step w", "-"), ("step s", "changed cut 2"),
        )

    def test_keep_and_back(self):
        self.assert_said(
            ("shelf a p q", "ok"), ("keep a m", "ok"), ("out a 0", "p"), ("keep a n", "ok"), ("back a m", "ok"),
            ("show a", "p q"), ("back a n", "ok"), ("show a", "q"), ("shelf b x", "ok"), ("back b m", "ok"),
            ("swap b 0 y", "ok"), ("show b", "y q"), ("back a m", "ok"), ("show a", "p q"), ("keep b m", "ok"),
            ("back a m", "ok"), ("show a", "y q"), ("shelf c", "ok"), ("keep c o", "ok"), ("back a o", "ok"),
            ("show a", "-"),
        )

    def test_a_kept_make_stays_when_its_shelf_is_replaced(self):
        self.say("shelf a p q", "keep a m", "shelf a x", "shelf b", "back b m")
        self.assert_said(("show b", "p q"), ("show a", "x"))

    def test_walk_and_step(self):
        self.say("shelf a p q", "walk a stood s", "walk a stands t", "walk a strict u")
        self.assert_said(
            ("step s", "p"), ("step t", "p"), ("step u", "p"), ("put a 1 x", "ok"), ("step s", "q"), ("step t", "x"),
            ("step u", "changed put 1"), ("step s", "-"), ("step s", "-"), ("step t", "q"), ("step t", "-"),
            ("lay a a", "ok"), ("step t", "p"), ("step u", "changed put 1"), ("step s", "-"),
        )

    def test_changed_by_each_deed(self):
        for row, answer in (
            ("put a 3 x", "changed put 3"), ("out a 2", "changed out 2"), ("swap a 0 x", "changed swap 0"),
            ("turn a 1 3", "changed turned 1 3"), ("turn a 0 0", "changed turned 0 0"), ("lay a b", "changed laid 2"),
            ("lay a e", "changed laid 0"), ("lay a a", "changed laid 3"), ("cut a 1 n", "changed cut 1"),
            ("cut a 3 n", "changed cut 3"), ("back a m", "changed back 2"), ("back a e", "changed back 0"),
        ):
            self.desk = Desk()
            self.say("shelf a p q r", "shelf b x y", "shelf e", "keep b m", "keep e e", "walk a strict w", row)
            self.assert_said(("step w", answer), ("step w", answer), ("out b 0", "x"), ("step w", answer))

    def test_rows_that_are_no_deed_do_not_change_a_shelf(self):
        self.say("shelf a p q", "shelf b", "walk a strict w")
        self.assert_said(
            ("show a", "p q"), ("sum a 0 2", "pq"), ("unlike a b", "0"), ("keep a m", "ok"), ("walk a stands v", "ok"),
            ("step v", "p"), ("lay b a", "ok"), ("back b m", "ok"), ("step w", "p"), ("step w", "q"), ("step w", "-"),
        )

    def test_sum(self):
        self.say("shelf a ab c de", "turn a 0 2")
        self.assert_said(
            ("sum a 0 3", "cabde"), ("sum a 1 2", "ab"), ("sum a 1 3", "abde"), ("sum a 0 0", "-"), ("sum a 3 3", "-"),
            ("shelf e", "ok"), ("sum e 0 0", "-"),
        )

    def test_unlike(self):
        self.say("shelf a p q r", "shelf b p q s", "shelf c p q", "shelf d", "shelf e r q p")
        self.assert_said(
            ("unlike a b", "2"), ("unlike a c", "2"), ("unlike c a", "2"), ("unlike a d", "0"), ("unlike d a", "0"),
            ("unlike d d", "-"), ("unlike a a", "-"), ("turn e 0 3", "ok"), ("unlike a e", "-"), ("unlike e b", "2"),
        )

    def test_one_name_for_a_shelf_a_make_and_a_walker(self):
        self.say("shelf a p q", "keep a a", "walk a stands a")
        self.assert_said(
            ("step a", "p"), ("out a 0", "p"), ("show a", "q"), ("back a a", "ok"), ("show a", "p q"), ("step a", "-"),
            ("shelf a z", "ok"), ("back a a", "ok"), ("show a", "p q"), ("step a", "-"), ("walk a stood a", "ok"),
            ("step a", "p"),
        )

    def test_what_is_put_by_a_name_stands_in_the_place_of_what_stood_there(self):
        self.say("shelf a p q", "shelf b x", "keep a m", "keep b m", "walk a stood w", "step w", "walk b stood w")
        self.assert_said(
            ("step w", "x"), ("step w", "-"), ("back a m", "ok"), ("show a", "x"), ("cut a 0 b", "ok"),
            ("show b", "x"), ("show a", "-"), ("walk b stands w", "ok"), ("step w", "x"),
        )

    def test_a_walker_stays_with_its_shelf(self):
        self.say("shelf a p q r", "walk a stands s", "walk a stood t", "walk a strict u", "step s", "shelf a x y z")
        self.assert_said(
            ("step s", "q"), ("step t", "p"), ("step u", "p"), ("put a 0 v", "ok"), ("step s", "r"), ("step s", "-"),
            ("lay a a", "ok"), ("step s", "-"), ("step u", "q"), ("step t", "q"), ("step u", "r"), ("step u", "-"),
        )
        self.say("shelf b k l", "walk b stands w", "cut b 1 b", "put b 0 n")
        self.assert_said(("step w", "k"), ("step w", "-"), ("show b", "n l"))

    def test_a_shelf_laid_behind_another_one_that_took_its_name(self):
        self.say("shelf a p q", "walk a stands w", "step w", "cut a 1 b", "lay a b", "shelf b z")
        self.assert_said(("show a", "p q"), ("step w", "q"), ("step w", "-"), ("show b", "z"))

    def test_two_desks_are_apart(self):
        other = Desk()
        self.say("shelf a p", "keep a m", "walk a stood w")
        for row in ("show a", "back a m", "step w"):
            with self.assertRaises(NoName):
                other.say(row)
        other.say("shelf a x")
        self.assert_said(("show a", "p"), ("step w", "p"))

    def test_rows_of_two_thousand_signs(self):
        row = "shelf ab" + " x" * 996
        self.assertEqual(len(row), 2000)
        self.assert_said((row, "ok"), ("show ab", " ".join(["x"] * 996)), ("sum ab 0 996", "x" * 996))
        row = "shelf b" + " abcdefgh" * 221 + " xyz"
        self.assertEqual(len(row), 2000)
        self.assert_said((row, "ok"), ("show b", row[8:]), ("sum b 0 222", row[8:].replace(" ", "")))
        for error, start in ((NoName, "show "), (NoRow, ""), (NoName, "put ab 0 "), (NoRow, "walk ab ")):
            self.assert_refuses(error, start + "y" * (2000 - len(start)))
        self.assert_refuses(NoNumber, "out ab " + "1" * 1993)
        self.assert_refuses(NoRow, " " * 2000, "show" + " " * 1996)
        self.assert_refuses(NoName, "shelf" + " " * 1995, "shelf a" + " " * 1993)

    def test_longer_answers(self):
        self.say("shelf a" + " abcdefgh" * 200)
        self.say("lay a a", "lay a a", "shelf b" + " x" * 996, "out b 0")
        self.assert_said(("show a", " ".join(["abcdefgh"] * 800)), ("sum a 0 800", "abcdefgh" * 800))
        self.say("lay a a", "cut a 1600 c")
        self.assertEqual(len(self.desk.say("sum a 0 1600")), 12800)

    def test_up_to_two_thousand_things(self):
        self.say("shelf a" + " x" * 500, "lay a a", "lay a a")
        self.assert_refuses(TooMany, "put a 0 y", "put a 2000 y", "lay a a")
        self.assert_refuses(NoPlace, "put a 2001 y", "out a 2000", "swap a 2000 x", "sum a 0 2001", "cut a 9999 b")
        self.assert_said(("swap a 1999 y", "ok"), ("out a 1999", "y"), ("put a 1999 z", "ok"), ("sum a 1998 2000", "xz"))

    def test_more_things_than_a_make_may_have(self):
        self.say("shelf a p")
        self.assert_refuses(TooMany, "shelf a" + " x" * 2001, "shelf b" + " x" * 2001)
        self.assert_refuses(NoName, "show b", "shelf a" + " x" * 2001 + " ", "shelf A" + " x" * 2001)
        self.assert_said(("show a", "p"), ("shelf a" + " x" * 2000, "ok"), ("out a 1999", "x"))


class Refusals(DeskCase):
    def setUp(self):
        super().setUp()
        self.say("shelf a p q r", "shelf b", "keep a m", "walk a stands w", "walk a strict v", "walk b stood u")

    def tearDown(self):
        # What is refused has changed nothing.
        self.assert_said(
            ("show a", "p q r"), ("show b", "-"), ("step v", "p"), ("step w", "p"), ("step u", "-"), ("step w", "q"),
            ("shelf c", "ok"), ("back c m", "ok"), ("show c", "p q r"),
        )

    def test_what_is_no_text(self):
        self.assert_refuses(NoRow, None, 7, True, b"show a", ["show", "a"], ("show", "a"), {}, [], 10 ** 5000)

    def test_no_row_listed(self):
        self.assert_refuses(NoRow, "", " ", "  ", "Show a", "SHOW a", "sho a", "shows a", "turned a 0 1", "laid a b",
                            "walker a", "say a", "more w", "things a", "show\ta", "show\na", "show a\nshow b", "\nshow a",
                            "back\u00a0a m", "at a 0", "a", "ok", "-", "shelf", "part a 0 1", "make a", "far a")

    def test_another_number_of_words(self):
        for name, form in FORMS.items():
            good = {"S": "a", "M": "m", "K": "w", "P": "0", "W": "x", "Y": "stood"}
            words = [name] + [good[kind] for kind in form]
            for count in range(1, len(words)):
                self.assert_refuses(NoRow, " ".join(words[:count]))
            self.assert_refuses(NoRow, " ".join(words + ["x"]), " ".join(words + ["0"]), " ".join(words + ["x", "y"]))
        self.assert_refuses(NoRow, "show", "step", "put a 0", "put a 0 x y", "unlike a", "walk a stood")

    def test_the_number_of_words_goes_ahead_of_wrong_words(self):
        self.assert_refuses(NoRow, "put A 00", "show A B", "step nobody x", "out a", "walk A B", "sum A 0", "cut x 01",
                            "show a ", " show a", "show  a", "put a 0  x", "out a  0", "step w ", "unlike a  b")

    def test_words_without_signs(self):
        self.assert_refuses(NoName, "show ", "shelf ", "shelf  ", "shelf a ", "shelf a  x", "shelf a x ", "shelf  a",
                            "put a 0 ", "put  0 x", "swap a 0 ", "keep a ", "back a ", "lay a ", "lay  a", "step ",
                            "cut a 0 ", "walk a stood ", "unlike  a", "unlike a ")
        self.assert_refuses(NoNumber, "put a  x", "out a ", "turn a  1", "turn a 1 ", "sum a  ", "cut a  b")
        self.assert_refuses(NoWay, "walk a  x")

    def test_words_that_are_no_names_and_no_things(self):
        for word in NO_WORDS:
            self.assert_refuses(
                NoName, f"shelf {word}", f"shelf {word} x", f"shelf a {word}", f"shelf a x {word} y", f"put {word} 0 x",
                f"put a 0 {word}", f"swap {word} 0 x", f"swap a 0 {word}", f"turn {word} 0 1", f"lay {word} a",
                f"lay a {word}", f"cut {word} 0 b", f"cut a 0 {word}", f"keep {word} m", f"keep a {word}",
                f"back {word} m", f"back a {word}", f"walk {word} stood w", f"walk a stood {word}", f"out {word} 0",
                f"show {word}", f"sum {word} 0 1", f"unlike {word} a", f"unlike a {word}", f"step {word}",
            )

    def test_names_by_which_nothing_stands(self):
        for name in ("x", "m", "w", "abcdefgh", "aa", "shelf"):
            self.assert_refuses(
                NoName, f"put {name} 0 x", f"swap {name} 0 x", f"turn {name} 0 1", f"lay {name} a", f"lay a {name}",
                f"cut {name} 0 b", f"keep {name} m", f"walk {name} stood w", f"out {name} 0", f"show {name}",
                f"sum {name} 0 1", f"unlike {name} a", f"unlike a {name}",
            )
        self.assert_refuses(NoName, "back a a", "back a w", "back a x", "step a", "step m", "step x", "back x m")

    def test_places_that_are_not_so_written(self):
        for word in NO_PLACES:
            self.assert_refuses(
                NoNumber, f"put a {word} x", f"swap a {word} x", f"turn a {word} 1", f"turn a 0 {word}",
                f"cut a {word} c", f"out a {word}", f"sum a {word} 1", f"sum a 0 {word}",
            )

    def test_ways_that_are_none(self):
        self.assert_refuses(NoWay, *[f"walk a {word} w" for word in NO_WAYS])

    def test_places_that_are_not_there(self):
        self.assert_refuses(
            NoPlace, "put a 4 x", "put a 9999 x", "put b 1 x", "swap a 3 x", "swap b 0 x", "out a 3", "out b 0",
            "turn a 2 1", "turn a 0 4", "turn a 4 4", "turn b 0 1", "cut a 4 b", "cut b 1 a", "cut a 1000 a",
            "sum a 0 4", "sum a 2 1", "sum b 0 1", "sum b 1 1", "out a 9999",
        )

    def test_the_first_wrong_word_from_the_left(self):
        for error, rows in (
            (NoName, ("put x 00 A", "put A 00 x", "turn x 01 1", "walk x no A", "walk A no w", "out x 00", "cut x -1 B",
                      "lay x A", "lay A x", "unlike x y", "keep x A", "back x y", "shelf A B", "sum A 0 01")),
            (NoNumber, ("put a 00 A", "swap a -1 ", "turn a 00 01", "turn a 9999 01", "cut a 01 B", "sum a 9 x")),
            (NoWay, ("walk a no A", "walk b  ", "walk a 0 0")),
            (NoName, ("put a 9 A", "swap a 9999 A", "cut a 9 B", "put b 1 ")),
            (NoNumber, ("turn a 9 00", "sum a 4 ")),
        ):
            self.assert_refuses(error, *rows)

    def test_places_of_one_to_four_figures(self):
        self.say("shelf n" + " x" * 500, "lay n n", "lay n n")
        for place in ("0", "9", "10", "99", "100", "999", "1000", "1999"):
            self.assert_said((f"swap n {place} y", "ok"), (f"out n {place}", "y"), (f"put n {place} z", "ok"))
        self.assert_refuses(NoPlace, "out n 2000", "out n 9999")
        self.assert_refuses(NoNumber, "out n 10000", "out n 01999", "out n 0000", "out n 00")

    def test_names_of_one_letter_of_eight_and_of_nine(self):
        for name in ("k", "z", "abcdefgh", "zzzzzzzz"):
            self.assert_said((f"shelf {name} {name}", "ok"), (f"keep {name} {name}", "ok"), (f"show {name}", name),
                             (f"walk {name} stood {name}", "ok"), (f"step {name}", name), (f"out {name} 0", name),
                             (f"back {name} {name}", "ok"), (f"show {name}", name))
        self.assert_refuses(NoName, "shelf abcdefghi", "show abcdefghi", "put a 0 abcdefghi", "keep a abcdefghi")

    def test_a_refused_cut_or_walk_puts_nothing_by_the_name(self):
        self.assert_refuses(NoPlace, "cut a 4 new")
        self.assert_refuses(NoName, "show new", "cut nobody 0 new", "show new", "shelf new X", "show new")
        self.assert_refuses(NoWay, "walk a no new")
        self.assert_refuses(NoName, "step new", "keep nobody new", "back a new")


class ByChance(DeskCase):
    def word_of(self, chance, kind):
        if chance.random() < 0.03:
            return chance.choice(("", "A", "00", "x1", "zz", "-1", "9999", "stood", "abcdefghi"))
        if kind == "P":
            return str(chance.randrange(8))
        if kind == "Y":
            return chance.choice(("stood", "stands", "strict"))
        return chance.choice("abc") if kind != "W" else chance.choice("abcdef")

    def row_of(self, chance):
        name = chance.choice(sorted(FORMS) + ["shelf", "step", "put", "walk", "put", "lay"])
        form = "W" * chance.randrange(1, 7) if name == "shelf" else FORMS[name]
        words = [name] + [self.word_of(chance, kind) for kind in form]
        if chance.random() < 0.02:
            words.append("a")
        return " ".join(words)

    def test_beside_a_desk_of_plain_lists(self):
        met = {}
        for seed in range(25):
            chance = random.Random(seed)
            mine, plain = Desk(), PlainDesk()
            for turn in range(500):
                row = self.row_of(chance)
                told = self.assert_alike(lambda: mine.say(row), lambda: plain.say(row))
                self.assertIs(told[1].__class__, str if told[0] == "told" else type, row)
                met[told[:2]] = True
        refused = {told[1] for told in met if told[0] == "refused"}
        self.assertLessEqual({NoRow, NoName, NoNumber, NoWay, NoPlace}, refused)
        self.assertTrue(any(told[1].__class__ is str and told[1].startswith("changed turned") for told in met))

    def test_beside_a_desk_of_plain_lists_with_many_things(self):
        chance = random.Random(77)
        mine, plain = Desk(), PlainDesk()
        rows = ["shelf a " + " ".join(letters(900)), "shelf b " + " ".join(letters(700)), "shelf c x y"]
        rows += ["walk a stands a", "walk b strict b", "keep a a"]
        for turn in range(200):
            start, end = sorted(chance.randrange(1000) for side in range(2))
            name = chance.choice("abc")
            rows.append(chance.choice((
                f"turn {name} {start} {end}", f"put {name} {end} x", f"out {name} {start}", f"sum {name} {start} {end}",
                f"lay {name} {chance.choice('abc')}", f"unlike {name} a", f"keep {name} m", f"step {name}",
                f"show {name}", f"walk {name} stands c", f"cut {name} {end} {chance.choice('abcd')}", f"back {name} a",
            )))
        for row in rows:
            self.assert_alike(lambda: mine.say(row), lambda: plain.say(row))


if __name__ == "__main__":
    unittest.main()
