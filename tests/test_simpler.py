"""[7.1], [7.2], [0.2] (f), and [0.3] of simpler.py."""

import itertools
import random
import unittest

from rowasks.asks import asked, is_ask
from rowasks.errors import NoAsk
from rowasks.simpler import is_empty, simpler
from things import GREAT_THINGS, NO_ASKS, ODD_THINGS, each_step, refusal, some_ask, some_log

WORDS_AHEAD_OF_NO_KEY = ["over", "under", "plus", "times", "running", "change", "unlike"]
ONE_OF_EACH_WORD = [("key", "a"), ("over", -1), ("under", 2), ("plus", 3), ("times", -2), ("first", 4), ("each", 2),
                    ("window", 5), ("running",), ("change",), ("unlike",)]


def ruled_out(ask):
    """What [7.1] rules out and yet stands in an ask, told plainly."""
    found = [step for step in ask if step in [("plus", 0), ("times", 1), ("each", 1)]]
    for ahead, step in zip(ask, ask[1:]):
        if step[0] == "key" and ahead[0] in WORDS_AHEAD_OF_NO_KEY:
            found.append((ahead, step))
        if ahead[0] == step[0] and neighbours_ruled_out(ahead, step):
            found.append((ahead, step))
    return found


def neighbours_ruled_out(ahead, step):
    word = step[0]
    if word == "key":
        return ahead == step
    if word == "plus":
        return -20 <= ahead[1] + step[1] <= 20
    if word == "times":
        return -20 <= ahead[1] * step[1] <= 20
    if word == "each":
        return ahead[1] * step[1] <= 20
    return word in ["over", "under", "first", "unlike"]


def crowded_ask(chance):
    """An ask of few words and few numbers, so that like ones meet."""
    words = chance.sample(["key", "over", "under", "plus", "times", "first", "each", "window", "running", "change",
                           "unlike"], chance.choice([1, 2, 3]))
    return tuple(crowded_step(chance, chance.choice(words)) for turn in range(chance.randint(0, 5)))


def crowded_step(chance, word):
    if word == "key":
        return (word, chance.choice(["a", "a", "b"]))
    if word in ["running", "change", "unlike"]:
        return (word,)
    if word in ["first", "each", "window"]:
        return (word, chance.choice([1, 2, 3, 4, 5, 20]))
    return (word, chance.choice([-20, -11, -10, -9, -5, -4, -1, 0, 1, 2, 3, 9, 10, 11, 20]))


def close_log(chance):
    """Rows of few keys and small numbers, so that steps keep some and leave out some."""
    rows = [(chance.randint(0, 30), chance.choice(["a", "a", "b"]), chance.randint(-6, 6)) for turn in range(12)]
    return sorted(rows, key=lambda row: row[0])


class SameAnswers(unittest.TestCase):
    def check(self, ask, logs):
        made = simpler(ask)
        with self.subTest(ask=ask, made=made):
            self.assertTrue(is_ask(made))
            self.assertLessEqual(len(made), len(ask))
            self.assertEqual(ruled_out(made), [])
            self.assertEqual(simpler(made), made)
            if ruled_out(ask) == []:
                self.assertEqual(made, ask)
            for rows in logs:
                self.assertEqual(asked(made, rows), asked(ask, rows))

    def test_asks_of_few_words_and_numbers(self):
        chance = random.Random(70)
        for turn in range(4000):
            self.check(crowded_ask(chance), [close_log(chance), close_log(chance), some_log(chance)])

    def test_asks_of_any_steps(self):
        chance = random.Random(71)
        for turn in range(2000):
            self.check(some_ask(chance), [close_log(chance), some_log(chance)])

    def test_all_asks_of_two_steps(self):
        chance = random.Random(72)
        logs = [close_log(chance) for turn in range(3)] + [[], [(0, "a", 1)], [(0, "a", 0), (0, "b", 0), (0, "a", 0)]]
        for ask in itertools.product(each_step(), repeat=2):
            self.check(ask, logs)

    def test_all_asks_of_three_words(self):
        chance = random.Random(73)
        logs = [close_log(chance) for turn in range(2)]
        for ask in itertools.product(ONE_OF_EACH_WORD, repeat=3):
            self.check(ask, logs)

    def test_rows_of_one_moment_and_like_numbers(self):
        chance = random.Random(74)
        for turn in range(500):
            rows = [(7, chance.choice("ab"), chance.choice([0, 1])) for place in range(12)]
            self.check(crowded_ask(chance), [rows])


class Simpler(unittest.TestCase):
    def check(self, ask, made):
        with self.subTest(ask=ask):
            self.assertEqual(simpler(ask), made)

    def test_no_steps(self):
        self.check((), ())

    def test_steps_that_do_nothing(self):
        self.check((("plus", 0),), ())
        self.check((("times", 1),), ())
        self.check((("each", 1),), ())
        self.check((("plus", 0), ("times", 1), ("each", 1), ("plus", 0), ("running",)), (("running",),))

    def test_steps_that_only_seem_to_do_nothing(self):
        for step in [("over", -20), ("under", 20), ("plus", 1), ("times", 0), ("times", -1), ("first", 1),
                     ("first", 20), ("each", 2), ("window", 1), ("change",), ("unlike",)]:
            self.check((step,), (step,))

    def test_a_key_goes_ahead(self):
        for word in WORDS_AHEAD_OF_NO_KEY:
            step = (word, 2) if word in ["over", "under", "plus", "times"] else (word,)
            self.check((step, ("key", "b")), (("key", "b"), step))
            self.check((("first", 3), step, ("key", "b")), (("first", 3), ("key", "b"), step))

    def test_a_key_goes_ahead_of_several(self):
        self.check((("over", 1), ("plus", 2), ("running",), ("change",), ("key", "b")),
                   (("key", "b"), ("over", 1), ("plus", 2), ("running",), ("change",)))

    def test_a_key_goes_into_a_like_one(self):
        self.check((("key", "b"), ("over", 1), ("running",), ("key", "b")), (("key", "b"), ("over", 1), ("running",)))

    def test_a_key_stays_behind_first_each_and_window(self):
        for step in [("first", 2), ("each", 2), ("window", 2)]:
            self.check((step, ("key", "b")), (step, ("key", "b")))

    def test_keys(self):
        self.check((("key", "a"), ("key", "a"), ("key", "a")), (("key", "a"),))
        self.check((("key", "a"), ("key", "b")), (("key", "a"), ("key", "b")))

    def test_two_of_one_word(self):
        self.check((("over", 3), ("over", -5)), (("over", 3),))
        self.check((("over", -5), ("over", 3)), (("over", 3),))
        self.check((("under", 3), ("under", -5)), (("under", -5),))
        self.check((("first", 3), ("first", 7)), (("first", 3),))
        self.check((("unlike",), ("unlike",)), (("unlike",),))
        self.check((("plus", 3), ("plus", -5)), (("plus", -2),))
        self.check((("times", 3), ("times", -5)), (("times", -15),))
        self.check((("each", 3), ("each", 5)), (("each", 15),))

    def test_two_that_do_more_than_one(self):
        for ask in [(("running",), ("running",)), (("change",), ("change",)), (("window", 2), ("window", 2)),
                    (("window", 2), ("window", 4))]:
            self.check(ask, ask)

    def test_numbers_just_in_one_step_and_just_beyond(self):
        for word, one, other, both in [
                ("plus", 10, 10, 20), ("plus", 10, 11, None), ("plus", -10, -10, -20), ("plus", -10, -11, None),
                ("plus", 20, 20, None), ("plus", 20, 1, None), ("plus", 20, -1, 19),
                ("times", 4, 5, 20), ("times", 3, 7, None), ("times", -4, 5, -20), ("times", -3, 7, None),
                ("times", -4, -5, 20), ("times", 20, 20, None), ("times", 0, 20, 0), ("times", 20, 0, 0),
                ("each", 4, 5, 20), ("each", 3, 7, None), ("each", 2, 10, 20), ("each", 20, 2, None)]:
            ask = ((word, one), (word, other))
            self.check(ask, ask if both is None else ((word, both),))

    def test_numbers_that_come_to_nothing(self):
        self.check((("plus", 20), ("plus", -20)), ())
        self.check((("times", -1), ("times", -1)), ())
        self.check((("plus", 20), ("plus", 20), ("plus", -20)), (("plus", 20),))
        self.check((("over", 1), ("plus", 5), ("plus", -5), ("over", 7)), (("over", 7),))

    def test_neighbours_that_come_together_when_others_go(self):
        self.check((("unlike",), ("times", 1), ("unlike",)), (("unlike",),))
        self.check((("key", "a"), ("each", 1), ("plus", 0), ("key", "a")), (("key", "a"),))
        self.check((("first", 4), ("times", -1), ("times", -1), ("first", 2)), (("first", 2),))
        self.check((("plus", 2), ("key", "a"), ("plus", 3)), (("key", "a"), ("plus", 5)))

    def test_kinds(self):
        made = simpler((("over", 1), ("over", 2), ("running",), ("key", "a")))
        self.assertIs(type(made), tuple)
        self.assertEqual({type(step) for step in made}, {tuple})

    def test_no_ask(self):
        for thing in NO_ASKS + ODD_THINGS + GREAT_THINGS:
            self.assertIs(refusal(simpler, thing), NoAsk)


class IsEmpty(unittest.TestCase):
    def check(self, told, *steps):
        with self.subTest(steps=steps):
            self.assertIs(is_empty(steps), told)

    def test_no_neighbours(self):
        self.check(False)
        for step in each_step():
            self.check(False, step)

    def test_keys(self):
        self.check(True, ("key", "a"), ("key", "b"))
        self.check(True, ("key", "a"), ("key", "ab"))
        self.check(False, ("key", "ab"), ("key", "ab"))
        self.check(False, ("key", "a"), ("running",), ("key", "b"))
        self.check(True, ("key", "a"), ("key", "a"), ("key", "b"))

    def test_over_and_under(self):
        for bound in [-20, -3, 0, 5, 17]:
            for least, told in [(bound - 5, True), (bound - 1, True), (bound, True), (bound + 1, True),
                                (bound + 2, False), (bound + 3, False)]:
                if -20 <= least <= 20:
                    self.check(told, ("over", bound), ("under", least))
                    self.check(told, ("under", least), ("over", bound))
        self.check(True, ("over", 20), ("under", -20))
        self.check(False, ("under", 20), ("over", -20))

    def test_over_and_under_that_are_no_neighbours(self):
        self.check(False, ("over", 5), ("plus", 0), ("under", 1))
        self.check(False, ("under", 1), ("unlike",), ("over", 5))

    def test_anywhere_in_the_ask(self):
        for place in range(4):
            steps = [("running",)] * 3
            self.check(True, *steps[:place], ("key", "a"), ("key", "b"), *steps[place:])
            self.check(True, *steps[:place], ("under", 1), ("over", 0), *steps[place:])
            self.check(False, *steps[:place], ("under", 2), ("over", 0), *steps[place:])

    def test_other_neighbours(self):
        for ask in itertools.product(each_step(), repeat=2):
            words = {step[0] for step in ask}
            if words != {"over", "under"} and words != {"key"}:
                self.check(False, *ask)

    def test_what_is_empty_has_no_answer(self):
        chance = random.Random(75)
        many = 0
        for turn in range(3000):
            ask = crowded_ask(chance)
            if is_empty(ask):
                many += 1
                self.assertEqual(asked(ask, close_log(chance)), [])
        self.assertGreater(many, 50)

    def test_no_ask(self):
        for thing in NO_ASKS + ODD_THINGS + GREAT_THINGS:
            self.assertIs(refusal(is_empty, thing), NoAsk)


if __name__ == "__main__":
    unittest.main()
