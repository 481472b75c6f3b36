"""[1.1], [1.2], and [0.3] of rows.py: is_row, is_log, in_order."""

import unittest

from rowasks.rows import in_order, is_log, is_row
from things import GREAT_THINGS, ODD_THINGS


class Rows(unittest.TestCase):
    def right(self, thing):
        with self.subTest(thing=thing):
            self.assertIs(is_row(thing), True)

    def wrong(self, thing):
        with self.subTest(thing=thing):
            self.assertIs(is_row(thing), False)

    def test_moments(self):
        for moment in [0, 1, 50, 98, 99]:
            self.right((moment, "a", 0))
        for moment in [-1, -99, 100, 101, 10 ** 30, True, False, None, "0", "", "a", (0,), [0], ()]:
            self.wrong((moment, "a", 0))

    def test_keys(self):
        for key in ["a", "z", "m", "aa", "az", "za", "zz", "ab"]:
            self.right((0, key, 0))
        for key in ["", "aaa", "abc", "A", "Z", "aA", "Aa", "a ", " a", " ", "a\n", "\n", "1", "a1", "1a",
                    "`", "{", "a`", "a{", "_", "-", "\u00e4", "a\u00e4", "\u00df", "\u0101",
                    0, 1, True, None, ("a",), ["a"], ["a", "b"], ("a", "b"), ()]:
            self.wrong((0, key, 0))

    def test_numbers(self):
        for number in [-99, -98, -1, 0, 1, 98, 99]:
            self.right((0, "a", number))
        for number in [-100, 100, -101, 101, 10 ** 30, -10 ** 30, True, False, None, "0", "", (0,), [0]]:
            self.wrong((0, "a", number))

    def test_tuples_of_three_alone(self):
        for thing in [(), (0,), (0, "a"), (0, "a", 0, 0), (0, "a", 0, None), ("a", 0), ("a", 0, 0), (0, 0, "a"),
                      [0, "a", 0], [(0, "a", 0)], ((0, "a", 0),), "0a0", {0: 0, "a": "a", 1: 1}]:
            self.wrong(thing)

    def test_any_thing_may_be_asked(self):
        for thing in ODD_THINGS:
            self.wrong(thing)
            self.wrong((thing, thing, thing))
            self.wrong([thing])

    def test_great_whole_numbers(self):
        self.assertEqual([is_row(thing) for thing in GREAT_THINGS], [False] * len(GREAT_THINGS))


class Logs(unittest.TestCase):
    def test_logs(self):
        for rows in [[], [(0, "a", 0)], [(99, "zz", -99)], [(5, "a", 1), (5, "a", 1)],
                     [(5, "b", 2), (5, "a", 1), (5, "c", -3)], [(0, "a", 0), (1, "a", 0), (99, "a", 0)],
                     [(3, "z", 9), (4, "a", -9)]]:
            with self.subTest(rows=rows):
                self.assertIs(is_log(rows), True)

    def test_out_of_order(self):
        for rows in [[(1, "a", 0), (0, "a", 0)], [(0, "a", 0), (5, "a", 0), (4, "b", 0)],
                     [(9, "a", 0), (0, "b", 0), (9, "c", 0)], [(0, "a", 0), (9, "a", 0), (8, "a", 0), (9, "a", 0)]]:
            with self.subTest(rows=rows):
                self.assertIs(is_log(rows), False)

    def test_rows_such_as_answers_tell(self):
        self.assertIs(is_log([(99, "a", 5000), (113, "a", -5000), (113, "b", 0)]), True)
        self.assertIs(is_log([(113, "a", 0), (99, "a", 0)]), False)
        self.assertIs(is_log([(1000, "a", 0)]), True)

    def test_what_is_handed_in_stays(self):
        rows = [(3, "a", 1), (1, "b", 2)]
        is_log(rows)
        self.assertEqual(rows, [(3, "a", 1), (1, "b", 2)])


class InOrder(unittest.TestCase):
    def test_no_rows_and_one_row(self):
        self.assertEqual(in_order([]), [])
        self.assertEqual(in_order([(7, "a", 1)]), [(7, "a", 1)])

    def test_by_moments_alone(self):
        self.assertEqual(in_order([(9, "a", 0), (0, "b", 5), (4, "c", -5)]),
                         [(0, "b", 5), (4, "c", -5), (9, "a", 0)])
        # As texts 10 would stand ahead of 9.
        self.assertEqual(in_order([(10, "a", 0), (9, "a", 0)]), [(9, "a", 0), (10, "a", 0)])

    def test_those_of_one_moment_as_they_stand(self):
        self.assertEqual(in_order([(2, "b", 9), (1, "z", 1), (2, "a", 9), (1, "z", 0), (2, "a", -9), (1, "a", 5)]),
                         [(1, "z", 1), (1, "z", 0), (1, "a", 5), (2, "b", 9), (2, "a", 9), (2, "a", -9)])

    def test_what_is_in_order_stays_so(self):
        rows = [(1, "b", 2), (1, "a", 1), (3, "a", 0)]
        self.assertEqual(in_order(rows), rows)

    def test_rows_such_as_answers_tell(self):
        self.assertEqual(in_order([(113, "a", -5000), (99, "a", 5000)]), [(99, "a", 5000), (113, "a", -5000)])

    def test_told_is_another_list_and_the_one_handed_in_stays(self):
        for rows in [[], [(1, "a", 1)], [(1, "a", 1), (2, "a", 2)], [(2, "a", 2), (1, "a", 1)]]:
            with self.subTest(rows=rows):
                kept = list(rows)
                told = in_order(rows)
                self.assertIs(type(told), list)
                self.assertIsNot(told, rows)
                told.append((5, "x", 5))
                self.assertEqual(rows, kept)
                self.assertEqual(in_order(rows), told[:-1])

    def test_told_is_a_log_of_the_same_rows(self):
        rows = [(moment * 7 % 10, "abc"[moment % 3], moment) for moment in range(12)]
        told = in_order(rows)
        self.assertTrue(is_log(told))
        self.assertEqual(sorted(told), sorted(rows))


if __name__ == "__main__":
    unittest.main()
