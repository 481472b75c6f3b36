"""[10.1] and [0.3] of standing.py."""

import random
import unittest

from rowasks.errors import NoNumber, NoRow, TooLate
from rowasks.standing import at_moment, beside, history, unlike_at, weighed
from things import GREAT_THINGS, NO_NUMBERS, NO_ROWS, ODD_THINGS, refusal, some_log

LOG = [(2, "b", 4), (2, "a", 1), (5, "a", -5), (5, "a", 7), (9, "b", 0), (9, "ab", -3), (9, "b", -8)]
OTHER = [(0, "a", 1), (5, "a", 7), (5, "b", 2), (6, "z", 9)]
OUT_OF_ORDER = [(5, "a", 1), (4, "a", 1)]
NO_MOMENTS = NO_NUMBERS + [1000, 1001, 5000]
OF_ONE_LOG = [lambda rows: at_moment(rows, 50), lambda rows: history(rows, "a"), lambda rows: weighed(rows, 500)]
OF_TWO_LOGS = [beside, lambda one, other: unlike_at(one, other, 50)]
WITH_A_MOMENT = [at_moment, weighed, lambda rows, moment: unlike_at(rows, OTHER, moment),
                 lambda rows, moment: unlike_at(OTHER, rows, moment)]


def plain_standing(rows, key, moment):
    """The last row of the key that is not later, or None."""
    for row in reversed(rows):
        if row[1] == key and row[0] <= moment:
            return row[2]
    return None


def keys_of(*logs):
    return sorted({row[1] for rows in logs for row in rows})


def plain_weight(rows, key, end):
    """Moment by moment: a number stands from its own moment on up to, without, the end."""
    return sum(plain_standing(rows, key, moment) or 0 for moment in range(end))


class AtMoment(unittest.TestCase):
    def test_no_rows(self):
        for moment in [0, 5, 999]:
            self.assertEqual(at_moment([], moment), [])

    def test_moments(self):
        for moment, told in [
                (0, []), (1, []), (2, [("a", 1), ("b", 4)]), (4, [("a", 1), ("b", 4)]), (5, [("a", 7), ("b", 4)]),
                (8, [("a", 7), ("b", 4)]), (9, [("a", 7), ("ab", -3), ("b", -8)]),
                (10, [("a", 7), ("ab", -3), ("b", -8)]), (999, [("a", 7), ("ab", -3), ("b", -8)])]:
            with self.subTest(moment=moment):
                self.assertEqual(at_moment(LOG, moment), told)

    def test_a_row_of_moment_0(self):
        self.assertEqual(at_moment([(0, "a", 0)], 0), [("a", 0)])

    def test_against_a_plain_telling(self):
        chance = random.Random(100)
        for turn in range(2000):
            rows, moment = some_log(chance), chance.choice([0, 1, 3, 5, 20, 50, 99, 100, 999])
            told = [(key, plain_standing(rows, key, moment)) for key in keys_of(rows)]
            self.assertEqual(at_moment(rows, moment), [line for line in told if line[1] is not None])

    def test_kinds(self):
        told = at_moment(LOG, 9)
        self.assertIs(type(told), list)
        self.assertEqual({type(line) for line in told}, {tuple})


class History(unittest.TestCase):
    def test_no_rows_of_the_key(self):
        self.assertEqual(history([], "a"), [])
        self.assertEqual(history(LOG, "z"), [])

    def test_each_moment_once_with_what_stands_then(self):
        self.assertEqual(history(LOG, "a"), [(2, 1), (5, 7)])
        self.assertEqual(history(LOG, "b"), [(2, 4), (9, -8)])
        self.assertEqual(history(LOG, "ab"), [(9, -3)])

    def test_like_numbers_one_behind_the_other_are_all_told(self):
        self.assertEqual(history([(1, "a", 3), (2, "a", 3), (10, "a", 3)], "a"), [(1, 3), (2, 3), (10, 3)])

    def test_against_a_plain_telling(self):
        chance = random.Random(101)
        for turn in range(1000):
            rows = some_log(chance)
            for key in keys_of(rows):
                moments = sorted({row[0] for row in rows if row[1] == key})
                self.assertEqual(history(rows, key),
                                 [(moment, plain_standing(rows, key, moment)) for moment in moments])


class Weighed(unittest.TestCase):
    def test_no_rows(self):
        for end in [0, 999]:
            self.assertEqual(weighed([], end), [])

    def test_ends(self):
        # a: 1 from 2 to 5, 7 from then on; b: 4 from 2 to 9, -8 from then on; ab: -3 from 9 on
        self.assertEqual(weighed(LOG, 9), [("a", 3 + 28), ("ab", 0), ("b", 28)])
        self.assertEqual(weighed(LOG, 10), [("a", 3 + 35), ("ab", -3), ("b", 20)])
        self.assertEqual(weighed(LOG, 999), [("a", 3 + 7 * 994), ("ab", -3 * 990), ("b", 28 - 8 * 990)])

    def test_one_row(self):
        self.assertEqual(weighed([(0, "a", 5)], 0), [("a", 0)])
        self.assertEqual(weighed([(99, "a", -99)], 999), [("a", -99 * 900)])

    def test_an_end_that_is_earlier_than_some_row(self):
        self.assertIs(refusal(weighed, LOG, 8), NoNumber)
        self.assertIs(refusal(weighed, LOG, 0), NoNumber)
        self.assertIs(refusal(weighed, [(1, "a", 1)], 0), NoNumber)
        self.assertIs(refusal(weighed, [(1, "a", 1), (99, "b", 1)], 98), NoNumber)

    def test_against_a_plain_telling(self):
        chance = random.Random(102)
        for turn in range(300):
            rows = some_log(chance)
            end = max([row[0] for row in rows], default=0) + chance.choice([0, 1, 2, 30])
            self.assertEqual(weighed(rows, end), [(key, plain_weight(rows, key, end)) for key in keys_of(rows)])


class Beside(unittest.TestCase):
    def test_no_rows(self):
        self.assertEqual(beside([], []), [])
        self.assertEqual(beside([], LOG), [])
        self.assertEqual(beside([(1, "a", 2)], []), [(1, "a", 2, None)])

    def test_what_stands_in_the_other(self):
        self.assertEqual(beside(LOG, OTHER), [
            (2, "b", 4, None), (2, "a", 1, 1), (5, "a", -5, 7), (5, "a", 7, 7), (9, "b", 0, 2), (9, "ab", -3, None),
            (9, "b", -8, 2)])
        self.assertEqual(beside(OTHER, LOG), [(0, "a", 1, None), (5, "a", 7, 7), (5, "b", 2, 4), (6, "z", 9, None)])

    def test_a_number_0_is_not_none(self):
        self.assertEqual(beside([(1, "a", 2)], [(1, "a", 0)]), [(1, "a", 2, 0)])

    def test_a_log_with_itself(self):
        # Of several of one moment the last one stands, beside each of them.
        self.assertEqual(beside(LOG, LOG), [
            (2, "b", 4, 4), (2, "a", 1, 1), (5, "a", -5, 7), (5, "a", 7, 7), (9, "b", 0, -8), (9, "ab", -3, -3),
            (9, "b", -8, -8)])
        rows = list(LOG)
        self.assertEqual(beside(rows, rows), beside(LOG, LOG))

    def test_against_a_plain_telling(self):
        chance = random.Random(103)
        for turn in range(1000):
            one, other = some_log(chance), some_log(chance)
            self.assertEqual(beside(one, other), [row + (plain_standing(other, row[1], row[0]),) for row in one])


class UnlikeAt(unittest.TestCase):
    def test_no_rows(self):
        self.assertEqual(unlike_at([], [], 5), [])
        self.assertEqual(unlike_at([(5, "a", 0)], [], 5), ["a"])
        self.assertEqual(unlike_at([], [(5, "a", 0)], 5), ["a"])
        self.assertEqual(unlike_at([], [(5, "a", 0)], 4), [])

    def test_moments(self):
        for moment, told in [(0, ["a"]), (1, ["a"]), (2, ["b"]), (4, ["b"]), (5, ["b"]), (6, ["b", "z"]),
                             (9, ["ab", "b", "z"]), (999, ["ab", "b", "z"])]:
            with self.subTest(moment=moment):
                self.assertEqual(unlike_at(LOG, OTHER, moment), told)
                self.assertEqual(unlike_at(OTHER, LOG, moment), told)

    def test_a_log_with_itself(self):
        for moment in [0, 5, 999]:
            self.assertEqual(unlike_at(LOG, LOG, moment), [])

    def test_against_a_plain_telling(self):
        chance = random.Random(104)
        for turn in range(2000):
            one, other, moment = some_log(chance), some_log(chance), chance.choice([0, 2, 4, 10, 20, 99, 999])
            self.assertEqual(unlike_at(one, other, moment),
                             [key for key in keys_of(one, other)
                              if plain_standing(one, key, moment) != plain_standing(other, key, moment)])


class Refusals(unittest.TestCase):
    def test_no_row(self):
        for thing in NO_ROWS + ODD_THINGS + GREAT_THINGS:
            for call in OF_ONE_LOG:
                self.assertIs(refusal(call, [thing]), NoRow)
                self.assertIs(refusal(call, LOG + [thing]), NoRow)
            for call in OF_TWO_LOGS:
                self.assertIs(refusal(call, [thing], LOG), NoRow)
                self.assertIs(refusal(call, LOG, LOG + [thing]), NoRow)

    def test_too_late(self):
        for call in OF_ONE_LOG:
            self.assertIs(refusal(call, OUT_OF_ORDER), TooLate)
            self.assertIs(refusal(call, LOG), None)
        for call in OF_TWO_LOGS:
            self.assertIs(refusal(call, OUT_OF_ORDER, LOG), TooLate)
            self.assertIs(refusal(call, LOG, OUT_OF_ORDER), TooLate)
            self.assertIs(refusal(call, LOG, OTHER), None)

    def test_no_row_of_either_ahead_of_too_late(self):
        for call in OF_ONE_LOG:
            self.assertIs(refusal(call, OUT_OF_ORDER + [None]), NoRow)
        for call in OF_TWO_LOGS:
            self.assertIs(refusal(call, OUT_OF_ORDER, [None]), NoRow)
            self.assertIs(refusal(call, [None], OUT_OF_ORDER), NoRow)

    def test_no_number(self):
        for call in WITH_A_MOMENT:
            for place, moment in enumerate(NO_MOMENTS):
                with self.subTest(place=place):
                    self.assertIs(refusal(call, LOG, moment), NoNumber)
                    self.assertIs(refusal(call, [], moment), NoNumber)
            self.assertIs(refusal(call, [], 0), None)
            self.assertIs(refusal(call, LOG, 999), None)

    def test_no_number_behind_all_others(self):
        for call in WITH_A_MOMENT:
            for moment in NO_MOMENTS:
                self.assertIs(refusal(call, [None], moment), NoRow)
                self.assertIs(refusal(call, OUT_OF_ORDER, moment), TooLate)
        self.assertIs(refusal(weighed, OUT_OF_ORDER, 0), TooLate)
        self.assertIs(refusal(weighed, LOG + [None], 0), NoRow)


class Lists(unittest.TestCase):
    def test_what_is_handed_in_stays_and_what_is_told_is_new(self):
        for call in OF_ONE_LOG + [lambda rows: beside(rows, rows), lambda rows: unlike_at(rows, [], 9)]:
            for log in [[], LOG]:
                rows = list(log)
                told = call(rows)
                self.assertEqual(rows, log)
                kept = list(told)
                told.append("more")
                self.assertEqual(call(rows), kept)
                self.assertEqual(rows, log)


if __name__ == "__main__":
    unittest.main()
