"""[2.1], [2.2], [2.3], [0.2] (a), and [0.3] of asks.py: is_ask and asked."""

import itertools
import random
import unittest

from rowasks.asks import asked, is_ask
from rowasks.errors import AskError, NoAsk, NoRow, TooLate
from rowasks.rows import is_log, is_row
from things import (ANY_NUMBER_WORDS, BARE_WORDS, COUNT_WORDS, GREAT_THINGS, NO_ASKS, NO_ROWS, ODD_THINGS, each_step,
                    plain_step, some_ask, some_log)

NO_WHOLE_NUMBERS = [None, True, False, "1", "", "a", (1,), [1], (), []]

LOG = [(0, "a", 5), (0, "b", -3), (2, "a", 5), (3, "c", 0), (3, "b", -3), (5, "a", -7), (8, "b", 4), (8, "c", 12)]


class Asks(unittest.TestCase):
    def right(self, *steps):
        with self.subTest(steps=steps):
            self.assertIs(is_ask(steps), True)

    def wrong(self, *steps):
        with self.subTest(steps=steps):
            self.assertIs(is_ask(steps), False)

    def test_how_many_steps(self):
        step = ("running",)
        self.right()
        self.right(step)
        self.right(step, step, step, step)
        self.right(step, step, step, step, step)
        self.wrong(step, step, step, step, step, step)
        self.wrong(*[step] * 20)

    def test_key_steps(self):
        for key in ["a", "z", "az", "zz"]:
            self.right(("key", key))
        for key in ["", "abc", "A", "aB", "1", "a1", " ", "a ", "`", "{", "\u00e4", 0, 1, True, None, ("a",), ["a"]]:
            self.wrong(("key", key))
        self.wrong(("key",))
        self.wrong(("key", "a", "b"))
        self.wrong(("key", "a", None))

    def test_steps_with_any_small_number(self):
        for word in ANY_NUMBER_WORDS:
            for number in [-20, -19, -1, 0, 1, 19, 20]:
                self.right((word, number))
            for number in [-21, 21, -22, 22, 99, 10 ** 30] + NO_WHOLE_NUMBERS:
                self.wrong((word, number))
            self.wrong((word,))
            self.wrong((word, 1, 1))
            self.wrong((word, 1, None))

    def test_steps_with_a_number_from_1_on(self):
        for word in COUNT_WORDS:
            for number in [1, 2, 10, 19, 20]:
                self.right((word, number))
            for number in [0, -1, -20, 21, 22, 99, 10 ** 30] + NO_WHOLE_NUMBERS:
                self.wrong((word, number))
            self.wrong((word,))
            self.wrong((word, 1, 1))
            self.wrong((word, 1, None))

    def test_bare_steps(self):
        for word in BARE_WORDS:
            self.right((word,))
            for more in [1, 0, None, "a", ()]:
                self.wrong((word, more))
            self.wrong((word, 1, 1))

    def test_other_words(self):
        for word in ["", "Key", "KEY", "keys", "key ", " key", "sum", "last", "Over", "run", "running ", "window\n",
                     0, 1, None, True, (), [], ("key",), ["key"]]:
            for step in [(word,), (word, 1), (word, "a"), (word, 1, 1)]:
                self.wrong(step)

    def test_steps_and_asks_are_tuples(self):
        self.wrong(["running"])
        self.wrong(["key", "a"])
        self.wrong("running")
        self.wrong(())
        self.wrong((("running",),))
        for thing in [[], [("running",)], [["running"]], ("running",), ("key", "a"), "running", ["key", "a"],
                      {("running",): 1}]:
            with self.subTest(thing=thing):
                self.assertIs(is_ask(thing), False)

    def test_one_wrong_step_wherever_it_stands(self):
        steps = [("running",)] * 5
        for place in range(5):
            self.wrong(*steps[:place], ("over", 21), *steps[place + 1:])

    def test_any_thing_may_be_asked(self):
        for thing in ODD_THINGS:
            with self.subTest(thing=thing):
                self.assertIs(is_ask(thing), False)
                self.wrong(thing)
                self.wrong((thing,) if thing != "running" else ((thing,),))
                self.wrong((thing, thing))
                self.wrong(("running",), thing)

    def test_great_whole_numbers(self):
        self.assertEqual([is_ask(thing) for thing in GREAT_THINGS], [False] * len(GREAT_THINGS))


class Steps(unittest.TestCase):
    def makes(self, steps, rows, expected):
        with self.subTest(steps=steps, rows=rows):
            self.assertEqual(asked(steps, rows), expected)

    def test_no_steps_is_the_log(self):
        self.makes((), LOG, LOG)
        self.makes((), [], [])

    def test_no_rows(self):
        for step in each_step():
            self.makes((step,), [], [])

    def test_key(self):
        self.makes((("key", "a"),), LOG, [(0, "a", 5), (2, "a", 5), (5, "a", -7)])
        self.makes((("key", "c"),), LOG, [(3, "c", 0), (8, "c", 12)])
        self.makes((("key", "d"),), LOG, [])
        self.makes((("key", "ab"),), [(0, "a", 1), (1, "ab", 2), (2, "b", 3), (3, "ba", 4)], [(1, "ab", 2)])
        self.makes((("key", "a"),), [(0, "ab", 1), (1, "a", 2), (1, "aa", 3)], [(1, "a", 2)])

    def test_over(self):
        self.makes((("over", 0),), LOG, [(0, "a", 5), (2, "a", 5), (8, "b", 4), (8, "c", 12)])
        self.makes((("over", 5),), LOG, [(8, "c", 12)])
        self.makes((("over", -3),), LOG,
                   [(0, "a", 5), (2, "a", 5), (3, "c", 0), (8, "b", 4), (8, "c", 12)])
        self.makes((("over", -20),), [(0, "a", -21), (0, "a", -20), (0, "a", -19)], [(0, "a", -19)])

    def test_under(self):
        self.makes((("under", 0),), LOG, [(0, "b", -3), (3, "b", -3), (5, "a", -7)])
        self.makes((("under", -3),), LOG, [(5, "a", -7)])
        self.makes((("under", 5),), LOG, [(0, "b", -3), (3, "c", 0), (3, "b", -3), (5, "a", -7), (8, "b", 4)])
        self.makes((("under", 20),), [(0, "a", 21), (0, "a", 20), (0, "a", 19)], [(0, "a", 19)])

    def test_plus(self):
        rows = [(0, "a", 99), (1, "b", -99), (2, "a", 0)]
        self.makes((("plus", 20),), rows, [(0, "a", 119), (1, "b", -79), (2, "a", 20)])
        self.makes((("plus", -20),), rows, [(0, "a", 79), (1, "b", -119), (2, "a", -20)])
        self.makes((("plus", 0),), rows, rows)

    def test_times(self):
        rows = [(0, "a", 99), (1, "b", -99), (2, "a", 0), (2, "b", 3)]
        self.makes((("times", 20),), rows, [(0, "a", 1980), (1, "b", -1980), (2, "a", 0), (2, "b", 60)])
        self.makes((("times", -2),), rows, [(0, "a", -198), (1, "b", 198), (2, "a", 0), (2, "b", -6)])
        self.makes((("times", 0),), rows, [(0, "a", 0), (1, "b", 0), (2, "a", 0), (2, "b", 0)])
        self.makes((("times", 1),), rows, rows)

    def test_first(self):
        self.makes((("first", 1),), LOG, LOG[:1])
        self.makes((("first", 3),), LOG, LOG[:3])
        self.makes((("first", 7),), LOG, LOG[:7])
        self.makes((("first", 8),), LOG, LOG)
        self.makes((("first", 9),), LOG, LOG)
        self.makes((("first", 20),), LOG, LOG)

    def test_each(self):
        self.makes((("each", 1),), LOG, LOG)
        self.makes((("each", 2),), LOG, [(0, "b", -3), (3, "c", 0), (5, "a", -7), (8, "c", 12)])
        self.makes((("each", 3),), LOG, [(2, "a", 5), (5, "a", -7)])
        self.makes((("each", 8),), LOG, [(8, "c", 12)])
        self.makes((("each", 9),), LOG, [])
        self.makes((("each", 20),), LOG, [])

    def test_running(self):
        self.makes((("running",),), LOG,
                   [(0, "a", 5), (0, "b", -3), (2, "a", 10), (3, "c", 0), (3, "b", -6), (5, "a", 3), (8, "b", -2),
                    (8, "c", 12)])
        self.makes((("running",),), [(9, "z", -4)], [(9, "z", -4)])

    def test_change(self):
        self.makes((("change",),), LOG,
                   [(2, "a", 0), (3, "b", 0), (5, "a", -12), (8, "b", 7), (8, "c", 12)])
        self.makes((("change",),), [(9, "z", -4)], [])
        self.makes((("change",),), [(1, "a", 2), (1, "b", 3), (1, "c", 4)], [])
        # Less the row right ahead of its key, not the key's first.
        self.makes((("change",),), [(1, "a", 2), (2, "a", 5), (3, "a", 9)], [(2, "a", 3), (3, "a", 4)])

    def test_unlike(self):
        self.makes((("unlike",),), LOG,
                   [(0, "a", 5), (0, "b", -3), (3, "c", 0), (5, "a", -7), (8, "b", 4), (8, "c", 12)])
        # A number that stood earlier, but not right ahead, is kept; so is a key's first row, with 0 too.
        self.makes((("unlike",),), [(1, "a", 0), (1, "b", 0), (2, "a", 1), (3, "a", 0), (4, "a", 0), (5, "a", 0)],
                   [(1, "a", 0), (1, "b", 0), (2, "a", 1), (3, "a", 0)])
        # The row ahead of another key doesn't count.
        self.makes((("unlike",),), [(1, "a", 3), (1, "b", 3), (1, "a", 3), (1, "b", 4)],
                   [(1, "a", 3), (1, "b", 3), (1, "b", 4)])

    def test_window(self):
        self.makes((("window", 3),), LOG,
                   [(2, "a", 10), (2, "b", -3), (5, "a", -7), (5, "b", -3), (5, "c", 0), (8, "b", 4), (8, "c", 12)])
        self.makes((("window", 1),), LOG,
                   [(0, "a", 5), (0, "b", -3), (2, "a", 5), (3, "b", -3), (3, "c", 0), (5, "a", -7), (8, "b", 4),
                    (8, "c", 12)])
        self.makes((("window", 20),), LOG, [(19, "a", 3), (19, "b", -2), (19, "c", 12)])

    def test_window_at_its_first_and_last_moments(self):
        rows = [(0, "a", 1), (4, "a", 2), (5, "a", 4), (9, "a", 8), (10, "a", 16)]
        self.makes((("window", 5),), rows, [(4, "a", 3), (9, "a", 12), (14, "a", 16)])

    def test_windows_without_rows(self):
        self.makes((("window", 10),), [(35, "a", 1), (36, "a", -1), (99, "b", 7)], [(39, "a", 0), (99, "b", 7)])

    def test_window_beyond_the_greatest_moment(self):
        self.makes((("window", 19),), [(94, "a", 1), (95, "a", 2), (99, "a", 3)], [(94, "a", 1), (113, "a", 5)])
        self.makes((("window", 20),), [(99, "a", 3)], [(99, "a", 3)])

    def test_window_by_keys_in_pythons_order(self):
        rows = [(0, "b", 1), (0, "ab", 2), (1, "z", 3), (1, "a", 4), (1, "ab", 5), (2, "aa", 6)]
        self.makes((("window", 2),), rows, [(1, "a", 4), (1, "ab", 7), (1, "b", 1), (1, "z", 3), (3, "aa", 6)])


class StepsBehindOneAnother(unittest.TestCase):
    def makes(self, steps, rows, expected):
        with self.subTest(steps=steps):
            self.assertEqual(asked(steps, rows), expected)

    def test_order_of_steps_counts(self):
        rows = [(0, "a", 1), (1, "a", 2), (2, "a", 3)]
        self.makes((("plus", 1), ("times", 2)), rows, [(0, "a", 4), (1, "a", 6), (2, "a", 8)])
        self.makes((("times", 2), ("plus", 1)), rows, [(0, "a", 3), (1, "a", 5), (2, "a", 7)])
        self.makes((("first", 1), ("over", 1)), rows, [])
        self.makes((("over", 1), ("first", 1)), rows, [(1, "a", 2)])
        self.makes((("running",), ("change",)), rows, [(1, "a", 2), (2, "a", 3)])
        self.makes((("change",), ("running",)), rows, [(1, "a", 1), (2, "a", 2)])

    def test_two_windows(self):
        rows = [(0, "a", 1), (1, "a", 2), (2, "a", 4), (3, "b", 8), (5, "a", 16), (6, "a", 32)]
        # The first tells moments 1, 3, 5 and 7: 3 and 5 lie in one window of the second.
        self.makes((("window", 2), ("window", 3)), rows, [(2, "a", 3), (5, "a", 20), (5, "b", 8), (8, "a", 32)])
        self.makes((("window", 3), ("window", 2)), rows, [(3, "a", 7), (5, "a", 16), (5, "b", 8), (9, "a", 32)])
        self.makes((("window", 19), ("window", 20)), [(99, "a", 1)], [(119, "a", 1)])

    def test_steps_behind_a_window(self):
        rows = [(0, "b", 1), (1, "a", 2), (2, "a", 4), (5, "b", 8), (6, "a", -6)]
        self.makes((("window", 5), ("running",)), rows, [(4, "a", 6), (4, "b", 1), (9, "a", 0), (9, "b", 9)])
        self.makes((("window", 5), ("change",)), rows, [(9, "a", -12), (9, "b", 7)])
        self.makes((("window", 5), ("key", "b"), ("times", -1)), rows, [(4, "b", -1), (9, "b", -8)])
        self.makes((("window", 5), ("first", 3)), rows, [(4, "a", 6), (4, "b", 1), (9, "a", -6)])
        self.makes((("window", 5), ("each", 2)), rows, [(4, "b", 1), (9, "b", 8)])

    def test_five_steps(self):
        self.makes((("key", "a"), ("plus", 1), ("running",), ("window", 4), ("over", 10)), LOG, [(3, "a", 18)])

    def test_numbers_grow_beyond_those_of_rows(self):
        self.makes((("times", 20),) * 5, [(0, "a", 99), (1, "a", -99)],
                   [(0, "a", 99 * 20 ** 5), (1, "a", -99 * 20 ** 5)])


class WholeAnswers(unittest.TestCase):
    """asked against a plain telling of [2.2] that looks back over all rows for each row."""

    def test_against_a_plain_telling(self):
        chance = random.Random(20)
        for turn in range(4000):
            ask = some_ask(chance)
            rows = some_log(chance)
            with self.subTest(ask=ask, rows=rows):
                expected = rows
                for step in ask:
                    expected = plain_step(step, expected)
                self.assertEqual(asked(ask, rows), expected)

    def test_all_couples_of_steps_are_their_steps_one_behind_the_other(self):
        rows = LOG + [(19, "a", 1), (19, "c", 12), (20, "a", 1), (99, "b", 4)]
        steps = each_step()
        for one, other in itertools.product(steps, steps):
            between = asked((one,), rows)
            if all(is_row(row) for row in between):
                with self.subTest(one=one, other=other):
                    self.assertEqual(asked((one, other), rows), asked((other,), between))

    def test_answers_stand_by_their_moments(self):
        chance = random.Random(21)
        for turn in range(1000):
            ask = some_ask(chance)
            rows = some_log(chance)
            with self.subTest(ask=ask, rows=rows):
                self.assertIs(is_log(asked(ask, rows)), True)


class Lists(unittest.TestCase):
    def test_told_lists_are_new_and_what_is_handed_in_stays(self):
        rows = list(LOG)
        for ask in [()] + [(step,) for step in each_step()]:
            with self.subTest(ask=ask):
                told = asked(ask, rows)
                self.assertIs(type(told), list)
                self.assertTrue(all(type(row) is tuple for row in told))
                self.assertIsNot(told, rows)
                self.assertEqual(rows, LOG)
                kept = list(told)
                told.append((50, "x", 50))
                told[:1] = []
                self.assertEqual(rows, LOG)
                self.assertEqual(asked(ask, rows), kept)

    def test_the_list_handed_in_is_not_kept(self):
        rows = [(1, "a", 1)]
        told = asked((), rows)
        rows.append((2, "a", 2))
        self.assertEqual(told, [(1, "a", 1)])


class Refusals(unittest.TestCase):
    LATE = [(5, "a", 1), (4, "a", 1)]

    def refused(self, error, ask, rows):
        with self.subTest(ask=ask, rows=rows):
            with self.assertRaises(AskError) as caught:
                asked(ask, rows)
            self.assertIs(type(caught.exception), error)

    def test_no_ask(self):
        for ask in NO_ASKS + ODD_THINGS:
            self.refused(NoAsk, ask, LOG)
            self.refused(NoAsk, ask, [])

    def test_no_row(self):
        for thing in NO_ROWS + ODD_THINGS:
            self.refused(NoRow, (), [thing])
            self.refused(NoRow, (("running",),), LOG + [thing])
            self.refused(NoRow, (("first", 1),), [(0, "a", 0), thing, (0, "b", 0)])

    def test_answers_beyond_rows_are_no_rows_to_ask_of(self):
        self.refused(NoRow, (), asked((("window", 19),), [(99, "a", 1)]))
        self.refused(NoRow, (), asked((("times", 20),), [(99, "a", 99)]))

    def test_too_late(self):
        self.refused(TooLate, (), self.LATE)
        self.refused(TooLate, (("first", 1),), self.LATE)
        self.refused(TooLate, (("key", "z"),), self.LATE)
        self.refused(TooLate, (("running",),), LOG + [(7, "a", 0)])
        self.refused(TooLate, (), [(0, "a", 0), (9, "a", 0), (8, "b", 0), (9, "a", 0)])

    def test_of_several_the_first_told(self):
        for ask in NO_ASKS:
            self.refused(NoAsk, ask, [None])
            self.refused(NoAsk, ask, self.LATE)
            self.refused(NoAsk, ask, self.LATE + [None])
        for thing in NO_ROWS:
            self.refused(NoRow, (), self.LATE + [thing])
            self.refused(NoRow, (), [thing] + self.LATE)
            self.refused(NoRow, (("key", "a"),), self.LATE[:1] + [thing] + self.LATE[1:])
        # The row that is none is also the one that would stand out of its order.
        self.refused(NoRow, (), [(5, "a", 1), (4, "a", 100)])
        self.refused(NoRow, (), [(100, "a", 1), (4, "a", 1)])

    def test_great_whole_numbers(self):
        for thing in GREAT_THINGS:
            for ask, rows, error in [(thing, [], NoAsk), (thing, [thing], NoAsk), ((), [thing], NoRow),
                                     ((("running",),), LOG + [thing], NoRow), ((), self.LATE + [thing], NoRow)]:
                with self.assertRaises(AskError) as caught:
                    asked(ask, rows)
                self.assertIs(type(caught.exception), error)

    def test_what_is_refused_changes_nothing(self):
        for ask, rows in [(None, [(1, "a", 1)]), ((), [(1, "a", 1), [2, "b"]]), ((), [(5, "a", 1), (4, "a", 1)])]:
            kept = [row if isinstance(row, tuple) else list(row) for row in rows]
            with self.assertRaises(AskError):
                asked(ask, rows)
            self.assertEqual(rows, kept)


if __name__ == "__main__":
    unittest.main()
