"""[13.1] and [0.3] of parting.py."""

import random
import unittest

from rowasks.errors import NoNumber, NoRow, TooLate
from rowasks.parting import by_keys_parted, from_to, keys_changed, merged, shifted
from rowasks.rows import is_log
from things import GREAT, GREAT_THINGS, NO_NUMBERS, NO_ROWS, ODD_THINGS, refusal, some_log

LOG = [(2, "b", 4), (2, "a", 1), (5, "a", -5), (5, "a", 7), (9, "b", 0), (9, "ab", -3)]
OUT_OF_ORDER = [(5, "a", 1), (4, "a", 1)]
NO_MOMENTS = NO_NUMBERS + [1000, 1001, 5000]
NO_KEYS = [None, True, 0, 1, "", "A", "aB", "abc", "1", "a ", "-", [], ["a"], ("a",), (), [[[[["a"]]]]], GREAT, [GREAT]]
CALLS = [lambda rows: merged([rows]), lambda rows: merged((rows, LOG)), by_keys_parted,
         lambda rows: from_to(rows, 0, 999), lambda rows: shifted(rows, 1), lambda rows: keys_changed(rows, "a", "b")]


class Merged(unittest.TestCase):
    def test_no_logs_and_logs_without_rows(self):
        self.assertEqual(merged([]), [])
        self.assertEqual(merged(()), [])
        self.assertEqual(merged([[], [], []]), [])

    def test_one_log(self):
        self.assertEqual(merged([LOG]), LOG)
        self.assertEqual(merged((LOG, [])), LOG)

    def test_three_logs(self):
        one, other, third = [(1, "a", 1), (5, "a", 1)], [(0, "b", 2), (5, "b", 2), (6, "b", 2)], [(3, "c", 3)]
        told = [(0, "b", 2), (1, "a", 1), (3, "c", 3), (5, "a", 1), (5, "b", 2), (6, "b", 2)]
        self.assertEqual(merged([one, other, third]), told)
        self.assertEqual(merged((one, other, third)), told)

    def test_rows_of_one_moment_by_their_logs_and_as_they_stand_there(self):
        one, other, third = [(5, "z", 9), (5, "a", 1)], [(5, "m", 0), (5, "b", 3)], [(4, "c", 5), (5, "a", -1)]
        self.assertEqual(merged([one, other, third]), third[:1] + one + other + third[1:])
        self.assertEqual(merged([third, other, one]), third[:1] + third[1:] + other + one)

    def test_a_log_with_itself(self):
        self.assertEqual(merged([LOG, LOG]), [row for moment in [2, 5, 9] for log in [LOG, LOG] for row in log
                                              if row[0] == moment])

    def test_against_a_plain_telling(self):
        chance = random.Random(130)
        for turn in range(500):
            logs = [some_log(chance) for log in range(chance.randint(0, 4))]
            told = merged(logs)
            self.assertTrue(is_log(told))
            self.assertEqual(told, [row for moment in range(100) for rows in logs for row in rows if row[0] == moment])

    def test_refused_one_behind_the_other(self):
        self.assertIs(refusal(merged, [LOG, [None]]), NoRow)
        self.assertIs(refusal(merged, [LOG, OUT_OF_ORDER]), TooLate)
        self.assertIs(refusal(merged, [OUT_OF_ORDER, [None]]), TooLate)
        self.assertIs(refusal(merged, ([None], OUT_OF_ORDER)), NoRow)
        self.assertIs(refusal(merged, [LOG, OUT_OF_ORDER, [None]]), TooLate)
        self.assertIs(refusal(merged, [[(5, "a", 1)], [(4, "a", 1)]]), None)


class ByKeysParted(unittest.TestCase):
    def test_no_rows(self):
        self.assertEqual(by_keys_parted([]), [])

    def test_rising_by_keys(self):
        self.assertEqual(by_keys_parted(LOG), [
            ("a", [(2, "a", 1), (5, "a", -5), (5, "a", 7)]), ("ab", [(9, "ab", -3)]),
            ("b", [(2, "b", 4), (9, "b", 0)])])

    def test_kinds(self):
        told = by_keys_parted(LOG)
        self.assertIs(type(told), list)
        self.assertEqual([(type(part), type(part[1])) for part in told], [(tuple, list)] * 3)

    def test_against_a_plain_telling(self):
        chance = random.Random(131)
        for turn in range(500):
            rows = some_log(chance)
            self.assertEqual(by_keys_parted(rows), [(key, [row for row in rows if row[1] == key])
                                                    for key in sorted({row[1] for row in rows})])

    def test_the_lists_within_are_new_ones(self):
        told = by_keys_parted(LOG)
        told[0][1].clear()
        self.assertEqual(by_keys_parted(LOG)[0][1], [(2, "a", 1), (5, "a", -5), (5, "a", 7)])


class FromTo(unittest.TestCase):
    def test_from_the_one_on_up_to_without_the_other(self):
        for begin, end, told in [
                (0, 999, LOG), (2, 10, LOG), (2, 9, LOG[:4]), (3, 9, LOG[2:4]), (5, 6, LOG[2:4]), (2, 5, LOG[:2]),
                (0, 2, []), (0, 3, LOG[:2]), (9, 10, LOG[4:]), (10, 999, []), (6, 9, [])]:
            with self.subTest(begin=begin, end=end):
                self.assertEqual(from_to(LOG, begin, end), told)

    def test_begin_equal_and_greater(self):
        for begin, end in [(0, 0), (5, 5), (999, 999), (6, 5), (9, 2), (999, 0)]:
            self.assertEqual(from_to(LOG, begin, end), [])

    def test_no_rows(self):
        self.assertEqual(from_to([], 0, 999), [])

    def test_no_number(self):
        for place, moment in enumerate(NO_MOMENTS):
            with self.subTest(place=place):
                for rows in [LOG, []]:
                    self.assertIs(refusal(from_to, rows, moment, 5), NoNumber)
                    self.assertIs(refusal(from_to, rows, 5, moment), NoNumber)
                    self.assertIs(refusal(from_to, rows, moment, moment), NoNumber)
                self.assertIs(refusal(from_to, [None], moment, 5), NoRow)
                self.assertIs(refusal(from_to, OUT_OF_ORDER, 5, moment), TooLate)


class Shifted(unittest.TestCase):
    def test_later_and_earlier(self):
        for by in [0, 1, 90, -1, -2]:
            self.assertEqual(shifted(LOG, by), [(moment + by, key, number) for moment, key, number in LOG])

    def test_to_the_edges_and_beyond(self):
        rows = [(10, "a", 1), (60, "b", 2)]
        self.assertEqual(shifted(rows, 39), [(49, "a", 1), (99, "b", 2)])
        self.assertEqual(shifted(rows, -10), [(0, "a", 1), (50, "b", 2)])
        for by in [40, 41, -11, -60, -61, 100, -100, GREAT, -GREAT]:
            self.assertIs(refusal(shifted, rows, by), NoNumber)

    def test_no_rows(self):
        for by in [0, 5, 1000, -1000, GREAT]:
            self.assertEqual(shifted([], by), [])

    def test_what_is_no_whole_number(self):
        for by in [True, False, None, "1", [], (1,)]:
            self.assertIs(refusal(shifted, LOG, by), NoNumber)

    def test_no_row_and_too_late_ahead_of_no_number(self):
        self.assertIs(refusal(shifted, OUT_OF_ORDER + [None], 1000), NoRow)
        self.assertIs(refusal(shifted, OUT_OF_ORDER, 1000), TooLate)


class KeysChanged(unittest.TestCase):
    def test_a_new_key(self):
        self.assertEqual(keys_changed(LOG, "a", "zz"), [
            (2, "b", 4), (2, "zz", 1), (5, "zz", -5), (5, "zz", 7), (9, "b", 0), (9, "ab", -3)])

    def test_a_key_that_stands_there_already(self):
        self.assertEqual(keys_changed(LOG, "a", "b"), [
            (2, "b", 4), (2, "b", 1), (5, "b", -5), (5, "b", 7), (9, "b", 0), (9, "ab", -3)])

    def test_nothing_to_change(self):
        self.assertEqual(keys_changed(LOG, "z", "a"), LOG)
        self.assertEqual(keys_changed(LOG, "a", "a"), LOG)
        self.assertEqual(keys_changed([], "a", "b"), [])

    def test_what_is_no_key(self):
        for thing in NO_KEYS:
            for rows in [LOG, []]:
                self.assertIs(refusal(keys_changed, rows, thing, "a"), NoRow)
                self.assertIs(refusal(keys_changed, rows, "a", thing), NoRow)
                self.assertIs(refusal(keys_changed, rows, thing, thing), NoRow)
            self.assertIs(refusal(keys_changed, OUT_OF_ORDER, thing, "a"), TooLate)
            self.assertIs(refusal(keys_changed, OUT_OF_ORDER, "a", thing), TooLate)


class AllOfThem(unittest.TestCase):
    def test_no_row_then_too_late(self):
        for call in CALLS:
            for thing in NO_ROWS + ODD_THINGS + GREAT_THINGS:
                self.assertIs(refusal(call, [thing]), NoRow)
                self.assertIs(refusal(call, LOG + [thing]), NoRow)
            self.assertIs(refusal(call, OUT_OF_ORDER), TooLate)
            self.assertIs(refusal(call, OUT_OF_ORDER + [None]), NoRow)
            self.assertIs(refusal(call, LOG), None)

    def test_what_is_handed_in_stays_and_what_is_told_is_new(self):
        for call in CALLS:
            for log in [[], LOG]:
                rows = list(log)
                told = call(rows)
                kept = list(told)
                told.append("more")
                self.assertEqual(rows, log)
                self.assertEqual(call(rows), kept)

    def test_a_list_of_logs_stays(self):
        logs = [list(LOG), [], [(0, "a", 1)]]
        merged(logs)
        self.assertEqual(logs, [LOG, [], [(0, "a", 1)]])


if __name__ == "__main__":
    unittest.main()
