"""[12.1] and [0.2] (g), (i): desk_text and read_desk."""

import random
import unittest

from rowasks.asks import asked
from rowasks.desks import Desk, desk_text, read_desk
from rowasks.errors import AskError, NoBack, NoText
from things import (GREAT, GREAT_THINGS, ODD_THINGS, desk_of, neighbours, refusal, some_ask, some_log,
                    texts_up_to)

WRITINGS = [
    ([], {}, "--\n"),
    ([(0, "a", 0)], {}, "0 a 0\n--\n"),
    ([(12, "ab", -34), (12, "a", 5), (99, "z", 99)], {}, "12 ab -34\n12 a 5\n99 z 99\n--\n"),
    ([], {"a": ()}, "--\na: \n"),
    ([], {"sum": (("running",),)}, "--\nsum: running\n"),
    ([], {"zzzzzz": (), "b": (("key", "ab"), ("over", -3), ("running",)), "ab": (("each", 2),)},
     "--\nab: each 2\nb: key ab | over -3 | running\nzzzzzz: \n"),
    ([(1, "a", 2), (3, "b", -4)], {"own": (("key", "a"),), "all": ()}, "1 a 2\n3 b -4\n--\nall: \nown: key a\n"),
    ([(moment, "k", moment) for moment in range(12)], {name: (("first", 1),) for name in "abcdef"},
     "".join(f"{moment} k {moment}\n" for moment in range(12)) + "--\n"
     + "".join(f"{name}: first 1\n" for name in "abcdef")),
]

NO_WRITINGS = [
    "", "\n", "--", "-\n", "---\n", "--\n\n", "\n--\n", "-- \n", " --\n", "--\n--\n", "--\n ", "--\n \n", "- -\n",
    # logs
    "0 a 0\n", "0 a 0--\n", "0 a 0\n--", "0 a 0\n\n--\n", "0 A 0\n--\n", "100 a 0\n--\n", "0 a +1\n--\n",
    "00 a 0\n--\n", "0 a -0\n--\n", "--\n0 a 0\n", "0 a 0\n--\n1 a 0\n", "1 a 0\n0 a 0\n--\n",
    "5 a 1\n6 a 1\n5 a 1\n--\n",
    "".join(f"{moment} a 0\n" for moment in range(13)) + "--\n", "0 a 0\n" * 13 + "--\n",
    "0 a " + "9" * 5000 + "\n--\n",
    # names and asks
    "--\na:\n", "--\na\n", "--\na: ", "--\na:  \n", "--\n: \n", "--\n : \n", "--\na : \n", "--\n a: \n", "--\nA: \n",
    "--\nabcdefg: \n", "--\na1: \n", "--\na:running\n", "--\na:  running\n", "--\na: running \n", "--\na: running",
    "--\na: running\n\n", "--\n\na: running\n", "--\na: last 3\n", "--\na: over 21\n", "--\na: over +3\n",
    "--\na: over " + "9" * 5000 + "\n", "--\na: running |\n", "--\na: running | \n", "--\na: b: running\n",
    "--\na: " + " | ".join(["running"] * 6) + "\n", "--\nrunning\n", "--\na; running\n", "a: running\n--\n",
    "a: running\n", "--\na: running\n--\n",
    # names that do not rise, twice, too many
    "--\nb: \na: \n", "--\na: \na: \n", "--\na: running\na: change\n", "--\na: \nab: \nb: \nab: \n", "--\nb: \nab: \n",
    "--\n" + "".join(f"{name}: \n" for name in "abcdefg"),
]

# Signs that no desk is written with, some of which Python takes for digits, letters, blanks or the ends of lines.
FAR_SIGNS = [
    "--\r\n", "--\r", "--\t\n", "\t--\n", "--\x0b", "--\x0c", "--\x85", "--\u2028", "--\n\x00", "\ufeff--\n", "\ud800",
    "--\n\udfff\n", "\u2014\n", "\u2212\u2212\n", "--\na: \r\n", "0 a 0\r\n--\n", "0\ta\t0\n--\n", "0\xa0a\xa00\n--\n",
    "\u0663 a 0\n--\n", "0 a \uff13\n--\n", "0 a \xb2\n--\n", "0 a \u22121\n--\n", "0 \xe9 0\n--\n", "0 \uff41 0\n--\n",
    "--\n\xe9: \n", "--\na\xdf: \n", "--\na:\xa0\n", "--\na\uff1a \n", "--\na: over \u0663\n", "--\na: key \xe9\n",
    "--\na: running\x85", "--\na: running\u2028",
]


def no_texts():
    """Things that are no texts; no subTest may name them, since Python can't write out each."""
    things = ODD_THINGS + GREAT_THINGS + [(GREAT, "--\n"), ["--\n", GREAT], [[[[["--\n", GREAT]]]]]]
    for rows, asks, text in WRITINGS:
        lines = text.split("\n")
        things += [(text,), [text], [[[[[text]]]]], (((((text,),),),),), lines, tuple(lines), list(text), tuple(text),
                   (rows, tuple(asks)), [rows, list(asks)]]
    return [thing for thing in things if not isinstance(thing, str)]


def some_desk(chance):
    names = chance.sample(["a", "b", "ab", "z", "total", "zzzzzz", "own"], chance.randint(0, 6))
    return desk_of(some_log(chance), {name: some_ask(chance) for name in names})


class DeskText(unittest.TestCase):
    def test_writings(self):
        for rows, asks, text in WRITINGS:
            with self.subTest(text):
                self.assertEqual(desk_text(desk_of(rows, asks)), text)

    def test_the_desk_stays(self):
        desk = desk_of([(1, "a", 1)], {"a": (), "b": ()})
        desk.back()
        desk_text(desk)
        self.assertEqual((desk.rows(), desk.names(), desk.counts()), ([(1, "a", 1)], ["a"], (2, 1)))

    def test_only_what_is_there_is_written(self):
        desk = desk_of([(1, "a", 1), (2, "a", 1)], {"a": (), "b": ()})
        desk.lose("b")
        self.assertEqual(desk_text(desk), "1 a 1\n2 a 1\n--\na: \n")
        for text in ["1 a 1\n2 a 1\n--\na: \nb: \n", "1 a 1\n2 a 1\n--\na: \n", "1 a 1\n2 a 1\n--\n", "1 a 1\n--\n",
                     "--\n"]:
            desk.back()
            self.assertEqual(desk_text(desk), text)


class ReadDesk(unittest.TestCase):
    def check_same(self, read, desk):
        self.assertIsInstance(read, Desk)
        self.assertEqual(read.rows(), desk.rows())
        self.assertEqual(read.names(), desk.names())
        for name in desk.names():
            self.assertEqual(read.ask_of(name), desk.ask_of(name))
            self.assertEqual(read.answer(name), asked(desk.ask_of(name), desk.rows()))
        self.assertEqual(read.counts(), (0, 0))
        self.assertIs(refusal(read.back), NoBack)
        self.assertIs(refusal(read.forth), NoBack)

    def test_readings(self):
        for rows, asks, text in WRITINGS:
            with self.subTest(text):
                self.check_same(read_desk(text), desk_of(rows, asks))

    def test_there_and_back(self):
        chance = random.Random(120)
        for turn in range(1000):
            desk = some_desk(chance)
            self.check_same(read_desk(desk_text(desk)), desk)

    def test_a_read_desk_goes_on(self):
        desk = read_desk("1 a 2\n--\nown: key a\n")
        desk.add((1, "a", 3))
        self.assertIs(desk.hang("own", ()), True)
        desk.lose("own")
        self.assertEqual(desk.counts(), (3, 0))
        self.assertEqual([desk.back(), desk.back(), desk.back()], ["lose", "hang", "add"])
        self.assertEqual(desk_text(desk), "1 a 2\n--\nown: key a\n")
        self.assertIs(refusal(desk.back), NoBack)

    def test_each_read_desk_is_a_new_one(self):
        text = "1 a 2\n--\nown: key a\n"
        desk = read_desk(text)
        desk.add((5, "a", 1))
        desk.lose("own")
        self.assertEqual(desk_text(read_desk(text)), text)

    def test_what_is_no_writing(self):
        for text in NO_WRITINGS:
            with self.subTest(text=text[:60]):
                self.assertIs(refusal(read_desk, text), NoText)

    def test_signs_that_no_desk_is_written_with(self):
        for text in FAR_SIGNS:
            with self.subTest(text=ascii(text)):
                self.assertIs(refusal(read_desk, text), NoText)

    def test_what_is_no_text(self):
        for number, thing in enumerate(no_texts()):
            with self.subTest(number=number):
                self.assertIs(refusal(read_desk, thing), NoText)

    def check_text(self, text):
        try:
            desk = read_desk(text)
        except AskError as error:
            self.assertIs(type(error), NoText)
            return 0
        self.assertEqual(desk_text(desk), text)
        self.assertEqual(desk.counts(), (0, 0))
        return 1

    def test_one_sign_more_less_or_other(self):
        for rows, asks, text in WRITINGS[:-1]:
            for other in neighbours(text):
                self.check_text(other)

    def test_lines_left_out_told_twice_or_exchanged(self):
        chance = random.Random(121)
        read = 0
        for turn in range(3000):
            lines = desk_text(some_desk(chance)).split("\n")[:-1]
            for time in range(chance.choice([1, 1, 2])):
                one, other = chance.randrange(len(lines)), chance.randrange(len(lines))
                kind = chance.choice(["out", "twice", "exchanged"])
                if kind == "out" and len(lines) > 1:
                    lines.pop(one)
                elif kind == "twice":
                    lines.insert(other, lines[one])
                else:
                    lines[one], lines[other] = lines[other], lines[one]
            read += self.check_text("".join(line + "\n" for line in lines))
        self.assertGreater(read, 100)

    def test_all_short_texts(self):
        self.assertEqual(sum(self.check_text(text) for text in texts_up_to("-a:\n ", 6)), 1)
        # no line, and a line for a
        self.assertEqual(sum(self.check_text("--\n" + text) for text in texts_up_to("-a:\n ", 4)), 2)


if __name__ == "__main__":
    unittest.main()
