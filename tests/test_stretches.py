"""[9.1], [0.2] (h), and [0.3] of stretches.py."""

import random
import unittest

from rowasks.errors import NoNumber, NoRow, TooLate
from rowasks.stretches import going_on, longest, pauses, stretches
from things import GREAT, GREAT_THINGS, NO_NUMBERS, NO_ROWS, ODD_THINGS, refusal, some_log

LOG = [(0, "b", 4), (0, "a", 1), (2, "a", -5), (3, "b", 1), (5, "a", 9), (5, "a", 9), (9, "b", -3), (20, "ab", 7)]
OUT_OF_ORDER = [(5, "a", 1), (4, "a", 1)]
NO_GAPS = NO_NUMBERS + [100, 101, 999]
WITH_A_GAP = [stretches, lambda rows, gap: going_on(rows, gap, 3), longest]
ALL = WITH_A_GAP + [lambda rows, gap: pauses(rows, "a")]


def plain_stretches(rows, gap):
    """Each row begins a stretch, unless one of its key ahead of it is close by."""
    told = []
    for key in {row[1] for row in rows}:
        own = [row for row in rows if row[1] == key]
        begins = [k for k in range(len(own)) if k == 0 or own[k][0] > own[k - 1][0] + gap]
        for begin, behind in zip(begins, begins[1:] + [len(own)]):
            part = own[begin:behind]
            told.append((key, part[0][0], part[-1][0], len(part), sum(row[2] for row in part)))
    return sorted(told, key=lambda stretch: (stretch[1], stretch[0]))


def plain_going_on(rows, gap, moment):
    return sorted({key for key, first, last, many, total in plain_stretches(rows, gap) if first <= moment
                   and moment - last <= gap})


def some_gap(chance):
    return chance.choice([0, 1, 2, 3, 5, 10, 30, 98, 99])


class Stretches(unittest.TestCase):
    def test_no_rows(self):
        for gap in [0, 1, 99]:
            self.assertEqual(stretches([], gap), [])

    def test_one_row(self):
        for gap in [0, 1, 99]:
            self.assertEqual(stretches([(7, "ab", -3)], gap), [("ab", 7, 7, 1, -3)])

    def test_several_keys(self):
        self.assertEqual(stretches(LOG, 0), [
            ("a", 0, 0, 1, 1), ("b", 0, 0, 1, 4), ("a", 2, 2, 1, -5), ("b", 3, 3, 1, 1), ("a", 5, 5, 2, 18),
            ("b", 9, 9, 1, -3), ("ab", 20, 20, 1, 7)])
        self.assertEqual(stretches(LOG, 2), [
            ("a", 0, 2, 2, -4), ("b", 0, 0, 1, 4), ("b", 3, 3, 1, 1), ("a", 5, 5, 2, 18), ("b", 9, 9, 1, -3),
            ("ab", 20, 20, 1, 7)])
        self.assertEqual(stretches(LOG, 3), [
            ("a", 0, 5, 4, 14), ("b", 0, 3, 2, 5), ("b", 9, 9, 1, -3), ("ab", 20, 20, 1, 7)])
        self.assertEqual(stretches(LOG, 99), [("a", 0, 5, 4, 14), ("b", 0, 9, 3, 2), ("ab", 20, 20, 1, 7)])

    def test_just_by_the_gap_later_and_by_one_more(self):
        for gap in range(99):
            self.assertEqual(stretches([(0, "a", 1), (gap, "a", 2)], gap), [("a", 0, gap, 2, 3)])
            self.assertEqual(stretches([(0, "a", 1), (gap + 1, "a", 2)], gap),
                             [("a", 0, 0, 1, 1), ("a", gap + 1, gap + 1, 1, 2)])
        self.assertEqual(stretches([(0, "a", 1), (99, "a", 2)], 99), [("a", 0, 99, 2, 3)])

    def test_the_row_ahead_counts_not_the_first(self):
        self.assertEqual(stretches([(moment, "a", 1) for moment in range(0, 24, 2)], 2), [("a", 0, 22, 12, 12)])

    def test_rows_of_other_keys_between_do_not_part(self):
        self.assertEqual(stretches([(1, "a", 1), (2, "b", 5), (2, "c", 6), (3, "a", 2)], 2),
                         [("a", 1, 3, 2, 3), ("b", 2, 2, 1, 5), ("c", 2, 2, 1, 6)])

    def test_rows_of_one_moment(self):
        rows = [(4, "b", 1), (4, "a", 2), (4, "b", 3), (4, "ab", 4)]
        for gap in [0, 99]:
            self.assertEqual(stretches(rows, gap), [("a", 4, 4, 1, 2), ("ab", 4, 4, 1, 4), ("b", 4, 4, 2, 4)])

    def test_by_first_as_numbers_then_by_keys(self):
        self.assertEqual(stretches([(2, "z", 0), (2, "b", 0), (10, "a", 0)], 5),
                         [("b", 2, 2, 1, 0), ("z", 2, 2, 1, 0), ("a", 10, 10, 1, 0)])

    def test_against_a_plain_telling(self):
        chance = random.Random(90)
        for turn in range(3000):
            rows, gap = some_log(chance), some_gap(chance)
            with self.subTest(rows=rows, gap=gap):
                self.assertEqual(stretches(rows, gap), plain_stretches(rows, gap))

    def test_each_row_in_one_and_no_more_with_a_greater_gap(self):
        chance = random.Random(91)
        for turn in range(300):
            rows = some_log(chance)
            ahead = len(rows)
            for gap in range(100):
                told = stretches(rows, gap)
                self.assertEqual(sum(stretch[3] for stretch in told), len(rows))
                for moment, key, number in rows:
                    inside = [stretch for stretch in told if stretch[0] == key and stretch[1] <= moment <= stretch[2]]
                    self.assertEqual(len(inside), 1)
                self.assertLessEqual(len(told), ahead)
                ahead = len(told)

    def test_kinds(self):
        told = stretches(LOG, 3)
        self.assertIs(type(told), list)
        self.assertEqual({type(stretch) for stretch in told}, {tuple})


class GoingOn(unittest.TestCase):
    def test_no_rows(self):
        for moment in [-1, 0, 5, GREAT]:
            self.assertEqual(going_on([], 3, moment), [])

    def test_at_its_edges(self):
        rows = [(10, "a", 1), (12, "a", 1)]
        for gap, moment, told in [
                (2, 9, []), (2, 10, ["a"]), (2, 11, ["a"]), (2, 12, ["a"]), (2, 14, ["a"]), (2, 15, []),
                (0, 9, []), (0, 10, ["a"]), (0, 11, []), (0, 12, ["a"]), (0, 13, []),
                (1, 11, ["a"]), (1, 12, ["a"]), (1, 13, ["a"]), (1, 14, []),
                (99, 9, []), (99, 111, ["a"]), (99, 112, []), (99, 1000, [])]:
            with self.subTest(gap=gap, moment=moment):
                self.assertEqual(going_on(rows, gap, moment), told)

    def test_moments_below_0_and_great_ones(self):
        for gap in [0, 5, 99]:
            for moment in [-1, -50, -GREAT, GREAT, 199, 1000]:
                self.assertEqual(going_on([(0, "a", 1), (99, "b", 1)], gap, moment), [])
        self.assertEqual(going_on([(0, "a", 1), (99, "b", 1)], 99, 198), ["b"])

    def test_keys_rise(self):
        rows = [(0, "z", 1), (1, "b", 1), (2, "ab", 1), (3, "a", 1), (4, "z", 1)]
        self.assertEqual(going_on(rows, 9, 5), ["a", "ab", "b", "z"])
        self.assertEqual(going_on(rows, 3, 5), ["a", "ab", "z"])

    def test_against_a_plain_telling(self):
        chance = random.Random(92)
        for turn in range(3000):
            rows, gap, moment = some_log(chance), some_gap(chance), chance.randint(-5, 120)
            with self.subTest(rows=rows, gap=gap, moment=moment):
                self.assertEqual(going_on(rows, gap, moment), plain_going_on(rows, gap, moment))


class Longest(unittest.TestCase):
    def test_no_rows(self):
        self.assertIs(longest([], 0), None)
        self.assertIs(longest([], 99), None)

    def test_one_row(self):
        self.assertEqual(longest([(7, "a", -2)], 5), ("a", 7, 7, 1, -2))

    def test_by_moments_not_by_rows(self):
        rows = [(0, "a", 1), (0, "a", 1), (0, "a", 1), (1, "b", 2), (3, "b", 2)]
        self.assertEqual(longest(rows, 2), ("b", 1, 3, 2, 4))

    def test_of_several_as_long_the_first(self):
        self.assertEqual(longest([(0, "b", 1), (1, "a", 2), (2, "b", 3), (3, "a", 4)], 2), ("b", 0, 2, 2, 4))
        self.assertEqual(longest([(0, "b", 1), (0, "a", 2), (2, "b", 3), (2, "a", 4)], 2), ("a", 0, 2, 2, 6))
        self.assertEqual(longest([(5, "b", 1), (5, "a", 2), (9, "a", 3)], 0), ("a", 5, 5, 1, 2))

    def test_against_a_plain_telling(self):
        chance = random.Random(93)
        for turn in range(2000):
            rows, gap = some_log(chance), some_gap(chance)
            told = plain_stretches(rows, gap)
            most = max([stretch[2] - stretch[1] for stretch in told], default=0)
            first = [stretch for stretch in told if stretch[2] - stretch[1] == most][:1]
            self.assertEqual(longest(rows, gap), first[0] if first else None)


class Pauses(unittest.TestCase):
    def test_no_row_one_and_several(self):
        self.assertEqual(pauses([], "a"), [])
        self.assertEqual(pauses([(5, "b", 1), (9, "b", 1)], "a"), [])
        self.assertEqual(pauses([(5, "a", 1), (9, "b", 1)], "a"), [])
        self.assertEqual(pauses([(5, "a", 1), (9, "b", 1), (12, "a", 1), (99, "a", 1)], "a"), [7, 87])

    def test_rows_of_one_moment(self):
        self.assertEqual(pauses([(5, "a", 1), (5, "a", 1), (5, "b", 1), (5, "a", 3)], "a"), [0, 0])

    def test_like_keys(self):
        self.assertEqual(pauses([(1, "a", 1), (2, "ab", 1), (4, "ab", 1), (8, "a", 1)], "a"), [7])
        self.assertEqual(pauses([(1, "a", 1), (2, "ab", 1), (4, "ab", 1), (8, "a", 1)], "ab"), [2])

    def test_pauses_and_stretches(self):
        chance = random.Random(94)
        for turn in range(1000):
            rows, gap = some_log(chance), some_gap(chance)
            for key in {row[1] for row in rows}:
                many = len([stretch for stretch in stretches(rows, gap) if stretch[0] == key])
                self.assertEqual(1 + len([pause for pause in pauses(rows, key) if pause > gap]), many)


class Refusals(unittest.TestCase):
    def test_no_row(self):
        for thing in NO_ROWS + ODD_THINGS + GREAT_THINGS:
            for call in ALL:
                self.assertIs(refusal(call, [thing], 3), NoRow)
                self.assertIs(refusal(call, LOG + [thing], 3), NoRow)
                self.assertIs(refusal(call, [thing] + LOG, 3), NoRow)

    def test_too_late(self):
        for call in ALL:
            self.assertIs(refusal(call, OUT_OF_ORDER, 3), TooLate)
            self.assertIs(refusal(call, LOG + [(19, "a", 1)], 3), TooLate)
            self.assertIs(refusal(call, LOG + [(20, "a", 1)], 3), None)

    def test_no_number(self):
        for call in WITH_A_GAP:
            for place, gap in enumerate(NO_GAPS):
                with self.subTest(place=place):
                    self.assertIs(refusal(call, LOG, gap), NoNumber)
                    self.assertIs(refusal(call, [], gap), NoNumber)
            for gap in [0, 1, 98, 99]:
                self.assertIs(refusal(call, LOG, gap), None)

    def test_that_told_first(self):
        for call in WITH_A_GAP:
            for gap in NO_GAPS:
                self.assertIs(refusal(call, [None], gap), NoRow)
                self.assertIs(refusal(call, OUT_OF_ORDER + [None], gap), NoRow)
                self.assertIs(refusal(call, OUT_OF_ORDER, gap), TooLate)
        self.assertIs(refusal(pauses, OUT_OF_ORDER + [None], "a"), NoRow)


class Lists(unittest.TestCase):
    CALLS = [lambda rows: stretches(rows, 3), lambda rows: going_on(rows, 3, 5), lambda rows: longest(rows, 3),
             lambda rows: pauses(rows, "a")]

    def test_what_is_handed_in_stays(self):
        for call in self.CALLS:
            rows = list(LOG)
            call(rows)
            self.assertEqual(rows, LOG)

    def test_new_lists_each_time(self):
        for call in self.CALLS:
            for rows in [[], list(LOG)]:
                told = call(rows)
                if isinstance(told, list):
                    kept = list(told)
                    told.append("more")
                    self.assertEqual(call(rows), kept)
                    self.assertIsNot(told, rows)


if __name__ == "__main__":
    unittest.main()
