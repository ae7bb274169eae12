"""Tests of luckwright.desks: point [20], and of point [21] a desk's fields."""

import unittest
from fractions import Fraction
from itertools import product

from luckwright.desks import BASE, WIDE, Desk, done_again, figure_of, lines_of, whole
from luckwright.dice import pool, read
from luckwright.errors import (BadPaper, BadPart, BadSize, BadSpread, BadStore, BadText, BadTree, ChanceFault, NoChance,
                               NoSuch)
from luckwright.parts import told
from luckwright.spreads import sure

DEEDS = ("put a 3d6", "put b 4d6b3-2", "take a", "put c 10-1d4", "put a 0d6", "take b")
# Each with the kind of its refusal, at a desk with a and b, and with sums from 2 to 12.
REFUSED = {
    "": "text", "   ": "text", "?": "text", "put": "text", "put z": "text", "put z 1d6 2": "text", "put z 1dx": "text",
    "put z d6": "text", "put z 100": "text", "put z -3": "text", "put z 1d6+": "text", "put z 3d6b": "text",
    "put z 1d0": "size", "put z 2d6b3": "size", "put a 1d6": "no such", "put a 1dx": "text", "put a 1d0": "size",
    "take": "text", "take z": "no such", "take a b": "text", "Take a": "text", "least": "text", "least x": "text",
    "least 100": "text", "least 1 2": "text", "least --1": "text", "least +1": "text", "least -": "text",
    "most": "text", "most 1.5": "text", "most -100": "text", "just": "text", "just 3 4": "text", "just a": "text",
    "given": "text", "given least": "text", "given least 1": "text", "given least 1 2 3": "text",
    "given most 1 2": "text", "given least x 2": "text", "given least 2 x": "text", "given least 13 x": "text",
    "given least 13 2": "no chance", "given least 99 99": "no chance", "mean 1": "text", "scatter x": "text",
    "middle 1": "text", "all all": "text", "names a": "text", "MEAN": "text", "mean,": "text",
}
ASKED = ("least 7", "most 7", "just 7", "given least 7 8", "mean", "scatter", "middle", "all", "names")


def desk_with(*lines):
    """Return a desk to which lines were said."""
    desk = Desk()
    for line in lines:
        answer = desk.say(line)
        assert not answer.startswith("error"), (line, answer)
    return desk


def state(desk):
    """Return all that a desk tells of itself."""
    return desk.text, desk.many, desk.sum.names(), sorted(desk.sum.rows), desk.sum.spread.shown()


def row_of(number, line):
    """Return a written row."""
    body = f"{number} {line}"
    return f"{body} {figure_of(body)}\n"


class FigureTest(unittest.TestCase):
    def test_figures(self):
        self.assertEqual((BASE, WIDE), (9973, 2000003))
        self.assertEqual(figure_of(""), 0)
        self.assertEqual(figure_of("a"), 97 * 9973 + 97)
        self.assertEqual(figure_of("ab"), 195 * 9973 + 97 + 2 * 98)
        self.assertNotEqual(figure_of("ab"), figure_of("ba"))
        for text in ("0 put a 3d6", "x" * 50, "z" * 30000, " \n", "\u00e9\u20ac"):
            numbers = [ord(sign) for sign in text]
            due = sum(numbers) % 2000003 * 9973 + sum(at * one for at, one in enumerate(numbers, start=1)) % 9973
            self.assertEqual(figure_of(text), due)
        self.assertLess(figure_of("z" * 30000), 2000003 * 9973)

    def test_whole(self):
        self.assertEqual([whole(word) for word in ("0", "7", "07", "42", "99", "-0", "-1", "-05", "-99")],
                         [0, 7, 7, 42, 99, 0, -1, -5, -99])
        for word in ("", "-", "--1", "+1", "100", "-100", "1-", "a", "-a", "1 ", " 1", "1.0", "\u0661", "- 1"):
            self.assertRaises(BadText, whole, word)


class SayTest(unittest.TestCase):
    def test_a_new_desk(self):
        desk = Desk()
        self.assertEqual(state(desk), ("", 0, (), [], sure(0).shown()))
        self.assertEqual([desk.say(line) for line in ("mean", "scatter", "middle", "all", "names", "least 0", "most -1")],
                         ["0", "0", "0", "0:1", "", "1", "0"])

    def test_put_and_take_answer_the_new_mean(self):
        desk = Desk()
        self.assertEqual(desk.say("put a 3d6"), "21/2")
        self.assertEqual(desk.say("put b 2"), "25/2")
        self.assertEqual(desk.say("put c 1d4-6"), "9")
        self.assertEqual(desk.say("names"), "a b c")
        self.assertEqual(desk.say("take a"), "-3/2")
        self.assertEqual(desk.say("take c"), "2")
        self.assertEqual(desk.say("take b"), "0")
        self.assertEqual(desk.say("names"), "")
        self.assertEqual(desk.many, 6)

    def test_all_that_is_asked(self):
        desk = desk_with("put b 1d6", "put a 1d6")
        spread = pool([read("1d6"), read("1d6")])
        for value in range(-99, 100):
            self.assertEqual(desk.say(f"least {value}"), told(spread.chance_of(lambda one: one >= value)))
            self.assertEqual(desk.say(f"most {value}"), told(spread.up_to(value)))
            self.assertEqual(desk.say(f"just {value}"), told(spread.chance(value)))
        for goal, value in product(range(-3, 13), repeat=2):
            here = sum(Fraction(*spread.chance(one)) for one in spread.numbers() if one >= goal)
            share = Fraction(*spread.chance(value)) / here if value >= goal else Fraction(0)
            self.assertEqual(desk.say(f"given least {goal} {value}"), str(share))
        self.assertEqual(desk.say("mean"), "7")
        self.assertEqual(desk.say("scatter"), "35/6")
        self.assertEqual(desk.say("middle"), "7")
        self.assertEqual(desk.say("names"), "a b")
        self.assertEqual(desk.say("all"), "2:1/36 3:1/18 4:1/12 5:1/9 6:5/36 7:1/6 8:5/36 9:1/9 10:1/12 11:1/18 12:1/36")

    def test_numbers_below_nought(self):
        desk = desk_with("put a 1d4-6")
        self.assertEqual(desk.say("all"), "-5:1/4 -4:1/4 -3:1/4 -2:1/4")
        self.assertEqual([desk.say(line) for line in ("middle", "mean", "just -3", "least -3", "most -04",
                                                      "given least -4 -4")], ["-4", "-7/2", "1/4", "1/2", "1/2", "1/3"])

    def test_blanks_between_words(self):
        for line in ("put a 1d6", "  put   a 1d6  ", "put\ta\t1d6", "put a 1d6\n"):
            desk = Desk()
            self.assertEqual(desk.say(line), "7/2")
            self.assertEqual(desk.text, row_of(0, "put a 1d6"))
        self.assertEqual(desk.say("  given  least   4  5 "), "1/3")

    def test_names_may_be_any_word(self):
        desk = desk_with("put put 1", "put 3d6 2", "put -7 3", "put a:b 4")
        self.assertEqual(desk.say("names"), "-7 3d6 a:b put")
        self.assertEqual(desk.say("take 3d6"), "8")

    def test_what_is_asked_changes_nothing(self):
        desk = desk_with("put a 1d6", "put b 1d6")
        before = state(desk)
        for line in ASKED:
            self.assertFalse(desk.say(line).startswith("error"))
            self.assertEqual(state(desk), before)

    def test_refusals_by_their_kinds(self):
        desk = desk_with("put a 1d6", "put b 1d6")
        before = state(desk)
        for line, kind in REFUSED.items():
            with self.subTest(line=line):
                self.assertEqual(desk.say(line), "error: " + kind)
                self.assertEqual(state(desk), before)
        for line, kind in list(REFUSED.items())[::-1]:
            self.assertEqual(desk.say(line), "error: " + kind)
        self.assertEqual(state(desk), before)
        self.assertEqual(desk.say("put z 1d6"), "21/2")

    def test_do_raises_what_say_tells(self):
        classes = {"text": BadText, "size": BadSize, "no chance": NoChance, "no such": NoSuch}
        for line, kind in REFUSED.items():
            desk = desk_with("put a 1d6", "put b 1d6")
            self.assertRaises(classes[kind], desk.do, line)
            self.assertEqual(desk.many, 2)
        self.assertEqual(Desk().do("put a 3d6"), "21/2")
        self.assertEqual(Desk().do("mean"), "0")

    def test_each_kind_is_told(self):
        for fault, kind in ((BadText, "text"), (BadPart, "part"), (BadSpread, "spread"), (BadTree, "tree"),
                            (BadPaper, "paper"), (BadSize, "size"), (NoChance, "no chance"), (NoSuch, "no such")):
            desk = Desk()

            def refuse(line, fault=fault):
                raise fault(line)

            desk.do = refuse
            self.assertEqual(desk.say("mean"), "error: " + kind)

    def test_answer(self):
        desk = desk_with("put a 1d6")
        for line in ("least 4", "most 2", "just 9", "given least 5 6", "mean", "scatter", "middle", "all", "names"):
            self.assertEqual(desk.answer(line.split()), desk.say(line))
            self.assertEqual(desk.answer(tuple(line.split())), desk.say(line))
        for words in ([], ["put", "b", "1d6"], ["take", "a"], ["what"], ["mean", "a"]):
            self.assertRaises(BadText, desk.answer, words)
        self.assertRaises(NoChance, desk.answer, ["given", "least", "7", "7"])


class WrittenTest(unittest.TestCase):
    def test_rows(self):
        desk = Desk()
        text = ""
        for number, line in enumerate(DEEDS):
            self.assertFalse(desk.say(line).startswith("error"))
            desk.say("mean")
            desk.say("put a a")
            text += row_of(number, line)
            self.assertEqual((desk.text, desk.many), (text, number + 1))
        body = "0 put a 3d6"
        self.assertEqual(text.split("\n")[0], f"{body} {figure_of(body)}")
        self.assertEqual(lines_of(text), DEEDS)
        self.assertIs(type(lines_of(text)), tuple)
        self.assertEqual(lines_of(""), ())

    def test_written(self):
        desk = desk_with("put a 2d6")
        self.assertEqual(desk.written(["take", "nothing"]), "7")
        self.assertEqual(desk.text, row_of(0, "put a 2d6") + row_of(1, "take nothing"))
        self.assertEqual(desk.many, 2)

    def test_done_again(self):
        desk = desk_with(*DEEDS)
        again = done_again(desk.text)
        self.assertIsInstance(again, Desk)
        self.assertEqual(state(again), state(desk))
        self.assertEqual(state(done_again("")), state(Desk()))
        self.assertEqual(again.say("put q 1d6"), desk.say("put q 1d6"))
        self.assertEqual(again.text, desk.text)

    def test_many_rows(self):
        desk = Desk()
        for number in range(12):
            desk.say(f"put n{number} 1d2")
        self.assertEqual(len(lines_of(desk.text)), 12)
        self.assertEqual(state(done_again(desk.text)), state(desk))

    def test_a_text_cut_anywhere_gives_the_desk_of_its_whole_rows(self):
        text = desk_with(*DEEDS).text
        for cut in range(len(text) + 1):
            rows = text[:cut].count("\n")
            self.assertEqual(lines_of(text[:cut]), DEEDS[:rows])
            self.assertEqual(state(done_again(text[:cut])), state(desk_with(*DEEDS[:rows])))

    def test_a_changed_sign_is_refused(self):
        text = desk_with(*DEEDS[:3]).text
        for place, sign in product(range(len(text)), "0a 9-"):
            if text[place] not in (sign, "\n"):
                changed = text[:place] + sign + text[place + 1:]
                self.assertRaises(BadStore, lines_of, changed)
                self.assertRaises(BadStore, done_again, changed)
        for place in range(len(text)):
            if text[place] != "\n":
                self.assertRaises(BadStore, lines_of, text[:place] + text[place + 1:])
                self.assertRaises(BadStore, lines_of, text[:place] + "\n" + text[place:])

    def test_rows_left_out_turned_or_twice_are_refused(self):
        rows = desk_with(*DEEDS).text.splitlines(keepends=True)
        for wrong in (rows[1:], rows[:1] + rows[2:], rows[:1] + rows[:1], [rows[1], rows[0]], ["\n"], [*rows, "\n"],
                      ["\n", *rows], ["x\n"], [" \n"], ["0\n"], ["0 0\n"], [row_of(1, "put a 3d6")],
                      [row_of("00", "put a 3d6")], [row_of(" 0", "put a 3d6")], [row_of("", "put a 3d6")]):
            self.assertRaises(BadStore, lines_of, "".join(wrong))
            self.assertRaises(BadStore, done_again, "".join(wrong))

    def test_rows_that_can_not_be_done(self):
        for lines in (["take a"], ["put a 1d6", "put a 1d6"], ["put a 1dx"], ["put a 1d0"], ["what"], [""],
                      ["put a 1d6", "given least 7 7"], ["put a 1d6", "take a", "take a"]):
            text = "".join(row_of(number, line) for number, line in enumerate(lines))
            self.assertRaises(BadStore, done_again, text)
            self.assertIsInstance(lines_of(text), tuple)

    def test_rows_that_are_not_written_so(self):
        for line in ("mean", "names", "put  a 1d6", " put a 1d6", "put a\t1d6"):
            self.assertRaises(BadStore, done_again, row_of(0, line))

    def test_a_row_without_an_end_is_not_looked_at(self):
        text = desk_with("put a 1d6").text
        for further in ("x", "1 take", "1 take a 7", "0 put"):
            self.assertEqual(lines_of(text + further), ("put a 1d6",))
            self.assertEqual(done_again(text + further).text, text)

    def test_all_errors_stand_under_one(self):
        for line in REFUSED:
            self.assertRaises(ChanceFault, desk_with("put a 1d6", "put b 1d6").do, line)
