"""[4.1], [4.2], [0.2] (c), and [0.3] of late.py: Sorter."""

import random
import unittest

from rowasks.errors import Ended, NoRow, TooLate
from rowasks.late import Sorter
from rowasks.rows import in_order
from things import GREAT_THINGS, NO_ROWS, ODD_THINGS, refusal


def some_rows(chance, greatest):
    return [(chance.randint(0, greatest), chance.choice("ab"), chance.randint(-9, 9))
            for turn in range(chance.randint(0, 12))]


def taken(late, rows):
    sorter = Sorter(late)
    for row in rows:
        sorter.take(row)
    return sorter


class Taken(unittest.TestCase):
    def test_late_0_tells_rows_at_once(self):
        sorter = Sorter(0)
        for row in [(0, "b", 1), (0, "a", 2), (4, "a", 3), (4, "a", 3), (99, "z", -1)]:
            self.assertEqual(sorter.take(row), [row])
            self.assertEqual(sorter.waits(), [])
        self.assertEqual(sorter.end(), [])

    def test_rows_wait_until_the_newest_is_so_much_later(self):
        sorter = Sorter(3)
        self.assertEqual(sorter.take((1, "a", 1)), [])
        self.assertEqual(sorter.take((3, "a", 2)), [])
        self.assertEqual(sorter.take((4, "a", 3)), [(1, "a", 1)])
        self.assertEqual(sorter.waits(), [(3, "a", 2), (4, "a", 3)])
        self.assertEqual(sorter.take((5, "a", 4)), [])
        self.assertEqual(sorter.take((8, "a", 5)), [(3, "a", 2), (4, "a", 3), (5, "a", 4)])
        self.assertEqual(sorter.end(), [(8, "a", 5)])

    def test_rows_out_of_order(self):
        sorter = Sorter(5)
        self.assertEqual(sorter.take((7, "a", 1)), [])
        self.assertEqual(sorter.take((4, "b", 2)), [])
        self.assertEqual(sorter.take((6, "c", 3)), [])
        self.assertEqual(sorter.waits(), [(4, "b", 2), (6, "c", 3), (7, "a", 1)])
        self.assertEqual(sorter.take((11, "d", 4)), [(4, "b", 2), (6, "c", 3)])
        self.assertEqual(sorter.take((9, "e", 5)), [])
        self.assertEqual(sorter.end(), [(7, "a", 1), (9, "e", 5), (11, "d", 4)])

    def test_those_of_one_moment_as_they_came(self):
        sorter = Sorter(5)
        for row in [(4, "z", 9), (3, "m", 0), (4, "a", 1), (4, "z", 9), (3, "b", -1), (4, "a", -5)]:
            self.assertEqual(sorter.take(row), [])
        expected = [(3, "m", 0), (3, "b", -1), (4, "z", 9), (4, "a", 1), (4, "z", 9), (4, "a", -5)]
        self.assertEqual(sorter.waits(), expected)
        self.assertEqual(sorter.take((9, "a", 0)), expected)

    def test_a_row_just_so_late_is_told_at_once(self):
        sorter = taken(3, [(10, "a", 1)])
        self.assertEqual(sorter.take((7, "a", 2)), [(7, "a", 2)])
        self.assertEqual(sorter.take((7, "a", 3)), [(7, "a", 3)])
        self.assertEqual(sorter.waits(), [(10, "a", 1)])

    def test_a_row_one_moment_less_is_too_late(self):
        for late in [0, 1, 3, 10]:
            sorter = taken(late, [(11, "a", 1)])
            self.assertIs(refusal(sorter.take, (10 - late, "a", 2)), TooLate)
            self.assertIsNone(refusal(sorter.take, (11 - late, "a", 2)))

    def test_the_newest_is_the_greatest_not_the_last(self):
        sorter = taken(3, [(10, "a", 1), (8, "a", 2)])
        self.assertIs(refusal(sorter.take, (6, "a", 3)), TooLate)
        self.assertEqual(sorter.take((7, "a", 4)), [(7, "a", 4)])

    def test_late_beyond_all_moments(self):
        rows = [(99, "a", 1), (0, "b", 2), (50, "c", 3)]
        for late in [99, 100, 1000, 10 ** 30]:
            sorter = Sorter(late)
            told = sum([sorter.take(row) for row in rows], [])
            self.assertEqual(told, [(0, "b", 2)] if late == 99 else [])
            self.assertEqual(told + sorter.end(), [(0, "b", 2), (50, "c", 3), (99, "a", 1)])

    def test_the_first_row_may_have_any_moment(self):
        self.assertEqual(taken(0, [(0, "a", 1)]).waits(), [])
        self.assertEqual(Sorter(0).take((0, "a", 1)), [(0, "a", 1)])
        self.assertEqual(Sorter(1).take((0, "a", 1)), [])
        self.assertEqual(Sorter(1).take((99, "a", 1)), [])

    def test_a_number_below_0_is_not_refused(self):
        for moment in [0, 7, 99]:
            sorter = Sorter(-1)
            self.assertEqual(sorter.take((moment, "a", 1)), [(moment, "a", 1)])
            self.assertIs(refusal(sorter.take, (moment, "a", 1)), TooLate)


class Whole(unittest.TestCase):
    def test_all_rows_in_their_order_whatever_the_order_in_which_they_came(self):
        chance = random.Random(40)
        for turn in range(2000):
            rows = some_rows(chance, 20)
            sorter = Sorter(chance.randint(20, 30))
            told = sum([sorter.take(row) for row in rows], [])
            self.assertEqual(told + sorter.end(), in_order(rows))

    def test_against_a_plain_telling(self):
        chance = random.Random(41)
        for turn in range(2000):
            late = chance.randint(0, 12)
            sorter = Sorter(late)
            came = []
            told = []
            for row in some_rows(chance, chance.choice([5, 20])):
                newest = max([other[0] for other in came], default=0)
                if row[0] < newest - late:
                    self.assertIs(refusal(sorter.take, row), TooLate)
                    continue
                came.append(row)
                told += sorter.take(row)
                newest = max(other[0] for other in came)
                self.assertEqual(told, [other for other in in_order(came) if other[0] <= newest - late])
                self.assertEqual(told + sorter.waits(), in_order(came))
            self.assertEqual(told + sorter.end(), in_order(came))


class Waits(unittest.TestCase):
    def test_ahead_of_any_row(self):
        self.assertEqual(Sorter(0).waits(), [])
        self.assertEqual(Sorter(5).waits(), [])

    def test_it_is_what_end_tells_and_takes_nothing_away(self):
        sorter = taken(9, [(4, "a", 1), (2, "b", 2)])
        self.assertEqual(sorter.waits(), [(2, "b", 2), (4, "a", 1)])
        self.assertEqual(sorter.waits(), [(2, "b", 2), (4, "a", 1)])
        self.assertEqual(sorter.end(), [(2, "b", 2), (4, "a", 1)])

    def test_behind_end(self):
        sorter = taken(9, [(4, "a", 1)])
        sorter.end()
        self.assertEqual(sorter.waits(), [])

    def test_each_list_is_a_new_one(self):
        sorter = taken(9, [(4, "a", 1)])
        told = sorter.waits()
        told.append((0, "x", 0))
        self.assertEqual(sorter.waits(), [(4, "a", 1)])
        sorter.waits().clear()
        self.assertEqual(sorter.end(), [(4, "a", 1)])
        sorter.waits().append((0, "x", 0))
        self.assertEqual(sorter.waits(), [])


class End(unittest.TestCase):
    def test_without_rows(self):
        self.assertEqual(Sorter(3).end(), [])

    def test_ended(self):
        sorter = taken(3, [(4, "a", 1)])
        sorter.end()
        for call in [sorter.take, sorter.drop_or_take]:
            for thing in [(4, "a", 1), (9, "a", 1), (0, "a", 1), None, (4, "a", 100)] + GREAT_THINGS:
                self.assertIs(refusal(call, thing), Ended)
        self.assertIs(refusal(sorter.end), Ended)
        self.assertEqual(sorter.many_lost(), 0)
        self.assertEqual(sorter.waits(), [])

    def test_the_list_may_be_changed(self):
        sorter = taken(3, [(4, "a", 1)])
        sorter.end().append((0, "x", 0))
        self.assertEqual(sorter.waits(), [])


class Lost(unittest.TestCase):
    def test_as_take_where_a_row_is_not_too_late(self):
        chance = random.Random(42)
        for turn in range(500):
            late = chance.randint(0, 20)
            one = Sorter(late)
            other = Sorter(late)
            lost = 0
            for row in some_rows(chance, 20):
                told = other.drop_or_take(row)
                if refusal(one.take, row) is TooLate:
                    lost += 1
                    self.assertEqual(told, [])
                self.assertEqual(one.waits(), other.waits())
                self.assertEqual([one.many_lost(), other.many_lost()], [0, lost])
            self.assertEqual(one.end(), other.end())
            self.assertEqual(other.many_lost(), lost)

    def test_what_it_tells(self):
        sorter = Sorter(2)
        self.assertEqual(sorter.drop_or_take((5, "a", 1)), [])
        self.assertEqual(sorter.drop_or_take((3, "b", 2)), [(3, "b", 2)])
        self.assertEqual(sorter.drop_or_take((2, "c", 3)), [])
        self.assertEqual(sorter.many_lost(), 1)
        self.assertEqual(sorter.drop_or_take((7, "d", 4)), [(5, "a", 1)])
        self.assertEqual(sorter.drop_or_take((4, "d", 4)), [])
        self.assertEqual(sorter.drop_or_take((0, "d", 4)), [])
        self.assertEqual(sorter.many_lost(), 3)
        self.assertEqual(sorter.end(), [(7, "d", 4)])
        self.assertEqual(sorter.many_lost(), 3)

    def test_none_lost_ahead_of_any_row(self):
        self.assertEqual(Sorter(0).many_lost(), 0)

    def test_told_lists_may_be_changed(self):
        sorter = Sorter(0)
        sorter.drop_or_take((5, "a", 1)).append((0, "x", 0))
        sorter.drop_or_take((4, "a", 1)).append((0, "x", 0))
        self.assertEqual(sorter.drop_or_take((4, "a", 1)), [])
        self.assertEqual(sorter.waits(), [])


class Refusals(unittest.TestCase):
    def test_no_row(self):
        sorter = taken(3, [(9, "a", 1)])
        for thing in NO_ROWS + ODD_THINGS + GREAT_THINGS:
            self.assertIs(refusal(sorter.take, thing), NoRow)
            self.assertIs(refusal(sorter.drop_or_take, thing), NoRow)
            self.assertIs(refusal(Sorter(0).take, thing), NoRow)
        self.assertEqual(sorter.many_lost(), 0)

    def test_no_row_ahead_of_too_late(self):
        sorter = taken(0, [(9, "a", 1)])
        for thing in [(0, "a", 100), (0, "A", 0), (-1, "a", 0)]:
            self.assertIs(refusal(sorter.take, thing), NoRow)
            self.assertIs(refusal(sorter.drop_or_take, thing), NoRow)

    def test_what_is_refused_changes_nothing(self):
        sorter = taken(3, [(9, "a", 1)])
        refusal(sorter.take, (99, "a", 100))
        refusal(sorter.drop_or_take, (99, "a", 100))
        refusal(sorter.take, (5, "a", 1))
        self.assertEqual(sorter.waits(), [(9, "a", 1)])
        self.assertEqual(sorter.many_lost(), 0)
        self.assertEqual(sorter.take((6, "b", 1)), [(6, "b", 1)])

    def test_told_lists_may_be_changed(self):
        sorter = taken(3, [(4, "a", 1), (5, "a", 2)])
        told = sorter.take((7, "a", 3))
        self.assertEqual(told, [(4, "a", 1)])
        told.append((0, "x", 0))
        self.assertEqual(sorter.take((8, "a", 4)), [(5, "a", 2)])
        self.assertEqual(sorter.end(), [(7, "a", 3), (8, "a", 4)])

    def test_two_sorters_side_by_side(self):
        one = Sorter(3)
        other = Sorter(3)
        one.take((9, "a", 1))
        self.assertEqual(other.take((0, "b", 1)), [])
        self.assertEqual(one.waits(), [(9, "a", 1)])
        other.end()
        self.assertEqual(one.take((12, "a", 2)), [(9, "a", 1)])


if __name__ == "__main__":
    unittest.main()
