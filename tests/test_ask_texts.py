"""[8.1], [8.2], [0.2] (g) of asks: ask_text and read_ask."""

import random
import unittest

from rowasks.asks import is_ask
from rowasks.errors import AskError, NoText
from rowasks.texts import ask_text, read_ask
from things import each_step, neighbours, refusal, some_ask, texts_up_to

WRITINGS = [
    ((), ""),
    ((("key", "a"),), "key a"),
    ((("key", "zz"),), "key zz"),
    ((("over", -20),), "over -20"),
    ((("under", 20),), "under 20"),
    ((("plus", 0),), "plus 0"),
    ((("times", -1),), "times -1"),
    ((("first", 1),), "first 1"),
    ((("each", 10),), "each 10"),
    ((("window", 20),), "window 20"),
    ((("running",),), "running"),
    ((("change",),), "change"),
    ((("unlike",),), "unlike"),
    ((("key", "ab"), ("over", -3), ("running",)), "key ab | over -3 | running"),
    ((("key", "ke"), ("unlike",)), "key ke | unlike"),
    ((("running",), ("running",)), "running | running"),
    ((("change",), ("plus", 7), ("window", 3), ("times", -2)), "change | plus 7 | window 3 | times -2"),
    ((("first", 9), ("each", 2), ("under", -5), ("key", "b"), ("unlike",)),
     "first 9 | each 2 | under -5 | key b | unlike"),
]

NO_WRITINGS = [
    # blanks
    " ", "  ", " running", "running ", "over  3", "over 3 ", " over 3", "over3", "key  a", "keya", "key a ", "over - 3",
    "over", "over ", "key", "key ", "run ning", "ru nning",
    # bars
    "|", " | ", "running |", "running | ", "| running", " | running", "running|running", "running| running",
    "running |running", "running  | running", "running |  running", "running | | running", "running |  | running",
    "running || running", "running | running |", "running | running | ", "running running",
    # line feeds
    "\n", "running\n", "\nrunning", "over 3\n", "over\n3", "key a\n", "key\na", "running\n| running",
    "running |\nrunning",     "running\nrunning", "over 3\n | running",
    # numbers written another way
    "over +3", "over +0", "over -0", "over 03", "over 00", "over -03", "over --3", "over 3-", "over -", "over 1_0",
    "over 3.0", "over 1e1", "over 0x1", "over three", "over True", "over None", "first 01", "first +1", "each 1_0",
    "window 2.0",
    # numbers beyond
    "over 21", "over -21", "plus 100", "times -99", "first 0", "first -1", "first 21", "each 0", "each 21", "window 0",
    "window -3", "window 21", "over " + "9" * 5000, "plus -" + "9" * 5000, "first " + "1" * 5000,
    "over " + "0" * 5000, "over 1" + "_0" * 3000,
    # keys
    "key A", "key aB", "key abc", "key 1", "key a1", "key -", "key 'a'", "key |", "key {", "key `", "key a b",
    # steps that are none
    "last 3", "Over 3", "OVER 3", "overs 3", "ove 3", "Running", "running 3", "change 0", "unlike a", "over a",
    "over 3 4", "first a", "3 over", "a key", "3", "a", "-", "--", "~", "('running',)", "()", "[]", "key a over 3",
    "key a, over 3",
    # six steps, and right ones beside wrong ones
    " | ".join(["running"] * 6), " | ".join(["over 3"] * 7), "running | last 3", "last 3 | running",
    "running | over 21 | running", "running | over 3 | running | over 3 | over +3",
]


class AskText(unittest.TestCase):
    def test_writings(self):
        for ask, text in WRITINGS:
            with self.subTest(text):
                self.assertEqual(ask_text(ask), text)

    def test_each_number(self):
        for number in range(-20, 21):
            self.assertEqual(ask_text((("over", number), ("plus", number))), f"over {number} | plus {number}")


class ReadAsk(unittest.TestCase):
    def test_readings(self):
        for ask, text in WRITINGS:
            with self.subTest(text):
                self.assertEqual(read_ask(text), ask)

    def test_kinds(self):
        ask = read_ask("over 3 | key a | running")
        self.assertIs(type(ask), tuple)
        self.assertEqual([[type(part) for part in step] for step in ask], [[str, int], [str, str], [str]])
        self.assertEqual(type(read_ask("")), tuple)

    def test_there_and_back(self):
        for step in each_step():
            self.assertEqual(read_ask(ask_text((step,))), (step,))
        chance = random.Random(80)
        for turn in range(3000):
            ask = some_ask(chance)
            self.assertEqual(read_ask(ask_text(ask)), ask)

    def test_all_numbers_and_keys(self):
        for number in range(-20, 21):
            self.assertEqual(read_ask(f"times {number}"), (("times", number),))
        for number in range(1, 21):
            self.assertEqual(read_ask(f"each {number}"), (("each", number),))
        for one in "abcdefghijklmnopqrstuvwxyz":
            self.assertEqual(read_ask(f"key {one}"), (("key", one),))
            self.assertEqual(read_ask(f"key z{one}"), (("key", "z" + one),))

    def test_what_is_no_writing(self):
        for text in NO_WRITINGS:
            with self.subTest(text=text[:40]):
                self.assertIs(refusal(read_ask, text), NoText)

    def check_text(self, text):
        try:
            ask = read_ask(text)
        except AskError as error:
            self.assertIs(type(error), NoText)
            return 0
        self.assertTrue(is_ask(ask))
        self.assertEqual(ask_text(ask), text)
        return 1

    def test_one_sign_more_less_or_other(self):
        for ask, text in WRITINGS:
            for other in neighbours(text):
                self.check_text(other)

    def test_several_signs_more_less_or_other(self):
        chance = random.Random(81)
        for turn in range(6000):
            text = ask_text(some_ask(chance))
            for time in range(chance.randint(2, 4)):
                place = chance.randint(0, len(text))
                text = text[:place] + chance.choice(["", " ", "|", "\n", "-", "0", "1", "a", "+", "_"]) \
                    + text[place + chance.choice([0, 1]):]
            self.check_text(text)

    def test_all_short_texts(self):
        read = sum(self.check_text(text) for text in texts_up_to("a| \n", 6))
        self.assertEqual(read, 1)
        tails = texts_up_to("-012 \n", 4)
        # behind over: 0, 1, 2, 10 to 12, 20 and those below 0; behind first: 1, 2, 10, 11, 12, 20
        self.assertEqual(sum(self.check_text("over " + text) for text in tails), 13)
        self.assertEqual(sum(self.check_text("first " + text) for text in tails), 6)


if __name__ == "__main__":
    unittest.main()
