"""[3.1], [3.2], [0.2] (b), and [0.3] of walks.py: Walk."""

import itertools
import random
import unittest

from rowasks.asks import asked
from rowasks.errors import Ended, NoAsk, NoRow, TooLate
from rowasks.walks import Walk
from things import (ANY_NUMBER_WORDS, BARE_WORDS, GREAT_THINGS, NO_ASKS, NO_ROWS, ODD_THINGS, each_step, plain_step,
                    refusal, some_ask, some_log)

LOG = [(0, "a", 5), (0, "b", -3), (2, "a", 5), (3, "c", 0), (3, "b", -3), (5, "a", -7), (8, "b", 4), (8, "c", 12)]


def told_of(ask, rows):
    """What take tells of each row, and behind these what end tells."""
    walk = Walk(ask)
    return [walk.take(row) for row in rows] + [walk.end()]


def rooms_of(ask, rows):
    """The room ahead of any row, and behind each."""
    walk = Walk(ask)
    rooms = [walk.room()]
    for row in rows:
        walk.take(row)
        rooms.append(walk.room())
    return rooms


def came_to_steps(ask, rows):
    """The rows that came to each step, and behind these what is told, when no more than these rows came."""
    came = [rows]
    for step in ask:
        made = plain_step(step, rows)
        if step[0] == "window":
            # The window of the last row that came is still open.
            made = [row for row in made if row[0] < rows[-1][0] // step[1] * step[1]]
        rows = made
        came.append(rows)
    return came


def plain_room(step, came):
    keys = {row[1] for row in came}
    if step[0] in BARE_WORDS:
        return len(keys)
    if step[0] == "window":
        return 1 + len({row[1] for row in came if row[0] // step[1] == came[-1][0] // step[1]}) if came else 0
    return 1 if step[0] in ("first", "each") else 0


class WholeWalks(unittest.TestCase):
    def test_taken_and_ended_is_just_what_asked_tells(self):
        chance = random.Random(30)
        for turn in range(3000):
            ask = some_ask(chance)
            rows = some_log(chance)
            with self.subTest(ask=ask, rows=rows):
                told = told_of(ask, rows)
                self.assertEqual(sum(told, []), asked(ask, rows))

    def test_each_row_is_told_at_its_time(self):
        chance = random.Random(31)
        for turn in range(3000):
            ask = some_ask(chance)
            rows = some_log(chance)
            with self.subTest(ask=ask, rows=rows):
                walk = Walk(ask)
                so_far = []
                for many in range(1, len(rows) + 1):
                    so_far = so_far + walk.take(rows[many - 1])
                    self.assertEqual(so_far, came_to_steps(ask, rows[:many])[-1])

    def test_all_couples_of_steps(self):
        rows = LOG + [(19, "a", 1), (19, "c", 12), (20, "a", 1), (99, "b", 4)]
        for ask in itertools.product(each_step(), repeat=2):
            with self.subTest(ask=ask):
                self.assertEqual(sum(told_of(ask, rows), []), asked(ask, rows))

    def test_many_windows_and_steps_between(self):
        chance = random.Random(32)
        for turn in range(1500):
            ask = tuple(("window", chance.randint(1, 20)) if chance.random() < 0.6 else chance.choice(each_step())
                        for step in range(chance.randint(1, 5)))
            rows = some_log(chance)
            with self.subTest(ask=ask, rows=rows):
                self.assertEqual(sum(told_of(ask, rows), []), asked(ask, rows))

    def test_room_behind_each_row(self):
        chance = random.Random(33)
        for turn in range(2000):
            ask = some_ask(chance)
            rows = some_log(chance)
            with self.subTest(ask=ask, rows=rows):
                expected = []
                for many in range(len(rows) + 1):
                    came = came_to_steps(ask, rows[:many])
                    expected.append(sum(plain_room(step, came[place]) for place, step in enumerate(ask)))
                self.assertEqual(rooms_of(ask, rows), expected)


class Told(unittest.TestCase):
    def tells(self, ask, rows, expected):
        with self.subTest(ask=ask):
            self.assertEqual(told_of(ask, rows), expected)

    def test_no_steps(self):
        self.tells((), [(0, "a", 1), (0, "b", 2)], [[(0, "a", 1)], [(0, "b", 2)], []])
        self.tells((), [], [[]])

    def test_no_rows(self):
        for step in each_step():
            self.tells((step,), [], [[]])

    def test_steps_that_keep_or_change_tell_at_once(self):
        rows = [(0, "a", 1), (1, "b", 2), (2, "a", 1), (3, "a", 5)]
        self.tells((("key", "a"),), rows, [[(0, "a", 1)], [], [(2, "a", 1)], [(3, "a", 5)], []])
        self.tells((("over", 1),), rows, [[], [(1, "b", 2)], [], [(3, "a", 5)], []])
        self.tells((("under", 2),), rows, [[(0, "a", 1)], [], [(2, "a", 1)], [], []])
        self.tells((("plus", -1),), rows, [[(0, "a", 0)], [(1, "b", 1)], [(2, "a", 0)], [(3, "a", 4)], []])
        self.tells((("times", 3),), rows, [[(0, "a", 3)], [(1, "b", 6)], [(2, "a", 3)], [(3, "a", 15)], []])
        self.tells((("first", 2),), rows, [[(0, "a", 1)], [(1, "b", 2)], [], [], []])
        self.tells((("each", 2),), rows, [[], [(1, "b", 2)], [], [(3, "a", 5)], []])
        self.tells((("each", 3),), rows, [[], [], [(2, "a", 1)], [], []])
        self.tells((("running",),), rows, [[(0, "a", 1)], [(1, "b", 2)], [(2, "a", 2)], [(3, "a", 7)], []])
        self.tells((("change",),), rows, [[], [], [(2, "a", 0)], [(3, "a", 4)], []])
        self.tells((("unlike",),), rows, [[(0, "a", 1)], [(1, "b", 2)], [], [(3, "a", 5)], []])

    def test_a_window_is_told_when_a_row_of_a_later_one_comes(self):
        rows = [(0, "b", 1), (2, "a", 2), (2, "b", 4), (3, "a", 8), (5, "a", 16), (12, "c", 32)]
        self.tells((("window", 3),), rows,
                   [[], [], [], [(2, "a", 2), (2, "b", 5)], [], [(5, "a", 24)], [(14, "c", 32)]])
        self.tells((("window", 1),), [(0, "a", 1), (0, "a", 2), (1, "a", 3)], [[], [], [(0, "a", 3)], [(1, "a", 3)]])

    def test_it_is_the_row_that_comes_to_the_step_that_counts(self):
        # The row of b is of a later window, but never comes to the step.
        self.tells((("key", "a"), ("window", 3)), [(0, "a", 1), (9, "b", 2), (10, "a", 4), (11, "b", 5)],
                   [[], [], [(2, "a", 1)], [], [(11, "a", 4)]])
        self.tells((("first", 1), ("window", 3)), [(0, "a", 1), (9, "a", 2), (99, "a", 4)], [[], [], [], [(2, "a", 1)]])
        self.tells((("change",), ("window", 2)), [(0, "a", 1), (1, "a", 4), (5, "b", 1), (5, "a", 2)],
                   [[], [], [], [(1, "a", 3)], [(5, "a", -2)]])

    def test_steps_behind_a_window(self):
        rows = [(0, "b", 1), (1, "a", 2), (5, "b", 8), (6, "a", -6)]
        self.tells((("window", 5), ("running",)), rows,
                   [[], [], [(4, "a", 2), (4, "b", 1)], [], [(9, "a", -4), (9, "b", 9)]])
        self.tells((("window", 5), ("change",)), rows, [[], [], [], [], [(9, "a", -8), (9, "b", 7)]])
        self.tells((("window", 5), ("first", 3)), rows, [[], [], [(4, "a", 2), (4, "b", 1)], [], [(9, "a", -6)]])
        self.tells((("window", 5), ("each", 3)), rows, [[], [], [], [], [(9, "a", -6)]])
        self.tells((("window", 5), ("key", "b"), ("plus", 1)), rows, [[], [], [(4, "b", 2)], [], [(9, "b", 9)]])

    def test_two_windows(self):
        rows = [(0, "a", 1), (1, "a", 2), (2, "a", 4), (3, "b", 8), (5, "a", 16), (6, "a", 32)]
        # The first tells moments 1, 3, 5 and 7, each one row late; 3 is of a later window of the second than 1.
        self.tells((("window", 2), ("window", 3)), rows,
                   [[], [], [], [], [(2, "a", 3)], [], [(5, "a", 20), (5, "b", 8), (8, "a", 32)]])
        self.tells((("window", 1), ("window", 20)), rows, [[], [], [], [], [], [], [(19, "a", 55), (19, "b", 8)]])

    def test_end_tells_through_the_steps_behind(self):
        self.tells((("window", 2), ("over", 5)), [(0, "a", 1), (1, "b", 8)], [[], [], [(1, "b", 8)]])
        self.tells((("window", 4), ("window", 2), ("times", -1)), [(0, "a", 1)], [[], [(3, "a", -1)]])


class Room(unittest.TestCase):
    ROWS = [(0, "a", 1), (0, "b", 1), (2, "a", 1), (3, "c", 7), (9, "a", 2), (9, "a", 3)]

    def rooms(self, ask, expected):
        with self.subTest(ask=ask):
            self.assertEqual(rooms_of(ask, self.ROWS), expected)

    def test_each_word_alone(self):
        self.rooms((), [0] * 7)
        self.rooms((("key", "a"),), [0] * 7)
        for word in ANY_NUMBER_WORDS:
            self.rooms(((word, 1),), [0] * 7)
        for word in BARE_WORDS:
            self.rooms(((word,),), [0, 1, 2, 2, 3, 3, 3])
        for word in ["first", "each"]:
            for number in [1, 2, 20]:
                self.rooms(((word, number),), [1] * 7)

    def test_windows(self):
        self.rooms((("window", 3),), [0, 2, 3, 3, 2, 2, 2])
        self.rooms((("window", 1),), [0, 2, 3, 2, 2, 2, 2])
        self.rooms((("window", 20),), [0, 2, 3, 3, 4, 4, 4])

    def test_several_steps(self):
        self.rooms((("running",), ("change",), ("unlike",)), [0, 2, 4, 5, 7, 7, 7])
        self.rooms((("key", "a"), ("running",)), [0, 1, 1, 1, 1, 1, 1])
        self.rooms((("first", 2), ("running",), ("each", 2)), [2, 3, 4, 4, 4, 4, 4])
        # Rows come to the second only when the first one's window is told.
        self.rooms((("window", 3), ("window", 3)), [0, 2, 3, 3, 5, 4, 4])
        self.rooms((("window", 3), ("running",)), [0, 2, 3, 3, 4, 5, 5])
        self.rooms((("over", 20), ("window", 3)), [0] * 7)

    def test_asking_for_it_changes_nothing(self):
        walk = Walk((("window", 3), ("running",)))
        walk.take((0, "a", 1))
        self.assertEqual([walk.room(), walk.room()], [2, 2])
        self.assertEqual(walk.take((5, "b", 1)), [(2, "a", 1)])


class Refusals(unittest.TestCase):
    ASK = (("window", 3), ("running",))

    def test_no_ask(self):
        for thing in NO_ASKS + ODD_THINGS + GREAT_THINGS:
            self.assertIs(refusal(Walk, thing), NoAsk)

    def test_no_row(self):
        walk = Walk(self.ASK)
        for thing in NO_ROWS + ODD_THINGS + GREAT_THINGS:
            self.assertIs(refusal(walk.take, thing), NoRow)
            self.assertIs(refusal(Walk(()).take, thing), NoRow)

    def test_too_late(self):
        walk = Walk((("key", "z"),))
        walk.take((5, "a", 1))
        self.assertIs(refusal(walk.take, (4, "a", 1)), TooLate)
        self.assertIs(refusal(walk.take, (0, "z", 1)), TooLate)
        self.assertEqual(walk.take((5, "z", 1)), [(5, "z", 1)])
        walk.take((99, "a", 1))
        self.assertIs(refusal(walk.take, (98, "z", 1)), TooLate)

    def test_ended(self):
        for ask in [(), self.ASK]:
            walk = Walk(ask)
            walk.take((5, "a", 1))
            walk.end()
            self.assertIs(refusal(walk.take, (6, "a", 1)), Ended)
            self.assertIs(refusal(walk.end), Ended)
            self.assertIs(refusal(walk.end), Ended)
        walk = Walk(())
        self.assertEqual(walk.end(), [])
        self.assertIs(refusal(walk.end), Ended)

    def test_of_several_the_first_told(self):
        walk = Walk(self.ASK)
        walk.take((5, "a", 1))
        for thing in [(4, "a", 100), (4, "A", 1), (-1, "a", 1), (4, "a"), None]:
            self.assertIs(refusal(walk.take, thing), NoRow)
        walk.end()
        for thing in NO_ROWS + ODD_THINGS + GREAT_THINGS + [(4, "a", 1), (4, "a", 100)]:
            self.assertIs(refusal(walk.take, thing), Ended)

    def test_what_is_refused_changes_nothing(self):
        chance = random.Random(34)
        for turn in range(300):
            ask = some_ask(chance)
            rows = some_log(chance)
            walk = Walk(ask)
            told = []
            for row in rows:
                room = walk.room()
                # Of a great moment, so that it would be the newest if it were taken.
                self.assertIs(refusal(walk.take, (99, "a", 100)), NoRow)
                self.assertEqual(walk.room(), room)
                told.append(walk.take(row))
                room = walk.room()
                if row[0] > 0:
                    self.assertIs(refusal(walk.take, (row[0] - 1, "a", 1)), TooLate)
                self.assertEqual(walk.room(), room)
            told.append(walk.end())
            self.assertEqual(told, told_of(ask, rows))


class ByThemselves(unittest.TestCase):
    def test_two_walks_of_one_ask_side_by_side(self):
        ask = (("running",), ("each", 2), ("window", 3), ("unlike",))
        other_rows = [(moment, key, -number) for moment, key, number in LOG[1:]] + [(50, "b", 2)]
        one = Walk(ask)
        other = Walk(ask)
        told = []
        other_told = []
        for row, other_row in zip(LOG, other_rows):
            told.append(one.take(row))
            other_told.append(other.take(other_row))
        told.append(one.end())
        other_told.append(other.end())
        self.assertEqual(told, told_of(ask, LOG))
        self.assertEqual(other_told, told_of(ask, other_rows))

    def test_told_lists_may_be_changed(self):
        for ask in [()] + [(step,) for step in each_step()] + [(("window", 2), ("window", 3))]:
            with self.subTest(ask=ask):
                walk = Walk(ask)
                told = []
                for row in LOG:
                    got = walk.take(row)
                    self.assertIs(type(got), list)
                    told.append(list(got))
                    got.clear()
                    got.append((0, "x", 77))
                got = walk.end()
                self.assertIs(type(got), list)
                told.append(list(got))
                got.append((0, "x", 77))
                self.assertEqual(told, told_of(ask, LOG))


if __name__ == "__main__":
    unittest.main()
