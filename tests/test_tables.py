"""[5.1], [5.2], [0.2] (d), and [0.3] of tables.py."""

import random
import unittest

from rowasks.asks import asked
from rowasks.errors import NoRow, Unlike
from rowasks.tables import as_rows, by_key, coarser, greatest, led_together, table_of
from things import GREAT_THINGS, NO_ROWS, ODD_THINGS, refusal, some_log

ROWS = [(7, "b", -4), (0, "a", 5), (2, "a", -9), (1, "b", 3), (6, "b", 10), (2, "ab", 0), (7, "a", 1), (0, "a", 5)]
TABLE = (3, ((0, "a", 3, 1, -9, 5), (0, "ab", 1, 0, 0, 0), (0, "b", 1, 3, 3, 3),
             (2, "a", 1, 1, 1, 1), (2, "b", 2, 6, -4, 10)))


def plain_table(size, rows):
    lines = []
    for place in sorted({(row[0] // size, row[1]) for row in rows}):
        numbers = [row[2] for row in rows if (row[0] // size, row[1]) == place]
        lines.append((*place, len(numbers), sum(numbers), min(numbers), max(numbers)))
    return (size, tuple(lines))


def some_rows(chance):
    rows = some_log(chance)
    chance.shuffle(rows)
    return rows


class TableOf(unittest.TestCase):
    def test_no_rows(self):
        self.assertEqual(table_of(1, []), (1, ()))
        self.assertEqual(table_of(20, []), (20, ()))

    def test_one_row(self):
        self.assertEqual(table_of(10, [(25, "k", -7)]), (10, ((2, "k", 1, -7, -7, -7),)))
        self.assertEqual(table_of(1, [(0, "k", 0)]), (1, ((0, "k", 1, 0, 0, 0),)))

    def test_several_keys_and_windows(self):
        self.assertEqual(table_of(3, ROWS), TABLE)

    def test_first_and_last_moments_of_windows(self):
        self.assertEqual(table_of(5, [(4, "a", 1), (5, "a", 2), (9, "a", 3), (10, "a", 4), (99, "a", 5)]),
                         (5, ((0, "a", 1, 1, 1, 1), (1, "a", 2, 5, 2, 3), (2, "a", 1, 4, 4, 4),
                              (19, "a", 1, 5, 5, 5))))

    def test_all_in_one_window(self):
        self.assertEqual(table_of(1000, [(99, "a", 1), (0, "a", -1)]), (1000, ((0, "a", 2, 0, -1, 1),)))

    def test_numbers_below_0(self):
        self.assertEqual(table_of(9, [(0, "a", -3), (1, "a", -99), (2, "a", -1)]), (9, ((0, "a", 3, -103, -99, -1),)))

    def test_windows_rise_as_numbers(self):
        self.assertEqual([line[0] for line in table_of(1, [(10, "a", 1), (9, "a", 1), (2, "a", 1)])[1]], [2, 9, 10])

    def test_kinds(self):
        size, lines = table_of(3, ROWS)
        self.assertIs(type(lines), tuple)
        self.assertEqual({type(line) for line in lines}, {tuple})

    def test_rows_in_any_order_against_a_plain_telling(self):
        chance = random.Random(50)
        for turn in range(1000):
            rows = some_rows(chance)
            size = chance.choice([1, 2, 3, 7, 20, 100])
            with self.subTest(size=size, rows=rows):
                self.assertEqual(table_of(size, rows), plain_table(size, rows))

    def test_no_row(self):
        for thing in NO_ROWS + ODD_THINGS + GREAT_THINGS:
            self.assertIs(refusal(table_of, 3, [thing]), NoRow)
            self.assertIs(refusal(table_of, 3, ROWS + [thing]), NoRow)
            self.assertIs(refusal(table_of, 3, [thing] + ROWS), NoRow)

    def test_rows_handed_in_stay(self):
        rows = list(ROWS)
        table_of(3, rows)
        self.assertEqual(rows, ROWS)


class LedTogether(unittest.TestCase):
    def test_two_tables(self):
        one = (3, ((0, "a", 2, 5, 1, 4), (1, "b", 1, -2, -2, -2)))
        other = (3, ((0, "a", 1, -7, -7, -7), (0, "b", 1, 3, 3, 3), (4, "a", 1, 9, 9, 9)))
        expected = (3, ((0, "a", 3, -2, -7, 4), (0, "b", 1, 3, 3, 3), (1, "b", 1, -2, -2, -2), (4, "a", 1, 9, 9, 9)))
        self.assertEqual(led_together(one, other), expected)
        self.assertEqual(led_together(other, one), expected)

    def test_with_a_table_of_no_rows(self):
        self.assertEqual(led_together(TABLE, (3, ())), TABLE)
        self.assertEqual(led_together((3, ()), TABLE), TABLE)
        self.assertEqual(led_together((3, ()), (3, ())), (3, ()))

    def test_with_itself(self):
        self.assertEqual(led_together(TABLE, TABLE), table_of(3, ROWS + ROWS))

    def test_heaps_in_any_order_are_the_table_of_all(self):
        chance = random.Random(51)
        for turn in range(500):
            size = chance.choice([1, 3, 20])
            heaps = [some_rows(chance) for heap in range(chance.randint(1, 4))]
            tables = [table_of(size, heap) for heap in heaps]
            while len(tables) > 1:
                chance.shuffle(tables)
                tables.append(led_together(tables.pop(), tables.pop()))
            self.assertEqual(tables[0], plain_table(size, sum(heaps, [])))

    def test_unlike(self):
        for one, other in [(TABLE, (2, ())), ((2, ()), TABLE), ((1, ()), (2, ())),
                           (table_of(3, ROWS), table_of(6, ROWS))]:
            self.assertIs(refusal(led_together, one, other), Unlike)


class Coarser(unittest.TestCase):
    def test_by_1_is_the_same(self):
        self.assertEqual(coarser(TABLE, 1), TABLE)
        self.assertEqual(coarser((4, ()), 1), (4, ()))

    def test_by_more(self):
        self.assertEqual(coarser(TABLE, 2), (6, ((0, "a", 3, 1, -9, 5), (0, "ab", 1, 0, 0, 0), (0, "b", 1, 3, 3, 3),
                                                 (1, "a", 1, 1, 1, 1), (1, "b", 2, 6, -4, 10))))
        self.assertEqual(coarser(TABLE, 3),
                         (9, ((0, "a", 4, 2, -9, 5), (0, "ab", 1, 0, 0, 0), (0, "b", 3, 9, -4, 10))))
        self.assertEqual(coarser((4, ()), 5), (20, ()))

    def test_it_is_the_table_of_the_same_rows(self):
        chance = random.Random(52)
        for turn in range(500):
            rows = some_rows(chance)
            size = chance.randint(1, 9)
            by = chance.randint(1, 9)
            self.assertEqual(coarser(table_of(size, rows), by), plain_table(size * by, rows))

    def test_twice(self):
        for one in [1, 2, 3]:
            for other in [1, 2, 5]:
                self.assertEqual(coarser(coarser(TABLE, one), other), coarser(TABLE, one * other))


class ByKey(unittest.TestCase):
    def test_all_windows_together(self):
        self.assertEqual(by_key(TABLE), [("a", 4, 2, -9, 5), ("ab", 1, 0, 0, 0), ("b", 3, 9, -4, 10)])
        self.assertEqual(by_key((3, ())), [])

    def test_against_a_plain_telling(self):
        chance = random.Random(53)
        for turn in range(500):
            rows = some_rows(chance)
            expected = [line[1:] for line in plain_table(1000, rows)[1]]
            self.assertEqual(by_key(table_of(chance.randint(1, 20), rows)), expected)

    def test_the_list_is_a_new_one(self):
        by_key(TABLE).clear()
        self.assertEqual(len(by_key(TABLE)), 3)
        self.assertIs(type(by_key(TABLE)), list)


class Greatest(unittest.TestCase):
    def test_how_many(self):
        self.assertEqual(greatest(TABLE, 0), [(0, []), (2, [])])
        self.assertEqual(greatest(TABLE, 1), [(0, ["b"]), (2, ["b"])])
        self.assertEqual(greatest(TABLE, 2), [(0, ["b", "a"]), (2, ["b", "a"])])
        self.assertEqual(greatest(TABLE, 3), [(0, ["b", "a", "ab"]), (2, ["b", "a"])])
        self.assertEqual(greatest(TABLE, 50), [(0, ["b", "a", "ab"]), (2, ["b", "a"])])

    def test_no_lines(self):
        for many in [0, 1, 5]:
            self.assertEqual(greatest((3, ()), many), [])

    def test_a_number_below_0_is_not_refused(self):
        self.assertEqual(greatest(TABLE, -1), [(0, []), (2, [])])

    def test_of_like_sums_the_least_key(self):
        table = table_of(5, [(0, "c", 2), (0, "b", 2), (0, "aa", 1), (1, "d", 7), (1, "a", 2), (1, "aa", 1),
                             (2, "e", -1)])
        self.assertEqual(greatest(table, 9), [(0, ["d", "a", "aa", "b", "c", "e"])])
        self.assertEqual(greatest(table, 3), [(0, ["d", "a", "aa"])])

    def test_by_sums_not_by_greatest_numbers(self):
        table = table_of(5, [(0, "a", 9), (0, "a", -9), (0, "b", 1), (0, "c", -50), (0, "d", -2)])
        self.assertEqual(greatest(table, 9), [(0, ["b", "a", "d", "c"])])

    def test_the_lists_are_new_ones(self):
        told = greatest(TABLE, 1)
        told[0][1].append("x")
        told.append("x")
        self.assertEqual(greatest(TABLE, 1), [(0, ["b"]), (2, ["b"])])
        self.assertEqual([type(told), type(told[0]), type(told[0][1])], [list, tuple, list])


class AsRows(unittest.TestCase):
    def test_rows_of_lines(self):
        self.assertEqual(as_rows(TABLE), [(2, "a", 1), (2, "ab", 0), (2, "b", 3), (8, "a", 1), (8, "b", 6)])
        self.assertEqual(as_rows((3, ())), [])
        self.assertEqual(as_rows(table_of(19, [(99, "a", 3)])), [(113, "a", 3)])

    def test_it_is_what_a_step_window_tells(self):
        chance = random.Random(54)
        for turn in range(1000):
            rows = some_log(chance)
            size = chance.randint(1, 20)
            self.assertEqual(as_rows(table_of(size, rows)), asked((("window", size),), rows))

    def test_the_list_is_a_new_one(self):
        as_rows(TABLE).clear()
        self.assertEqual(len(as_rows(TABLE)), 5)
        self.assertIs(type(as_rows(TABLE)), list)


class HandedIn(unittest.TestCase):
    def test_tables_stay_as_they_were(self):
        table = table_of(3, ROWS)
        other = table_of(3, ROWS[:3])
        led_together(table, other)
        led_together(other, table)
        coarser(table, 2)
        by_key(table)
        greatest(table, 1)
        as_rows(table)
        self.assertEqual(table, TABLE)
        self.assertEqual(other, plain_table(3, ROWS[:3]))


if __name__ == "__main__":
    unittest.main()
