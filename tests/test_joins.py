"""[6.1], [6.2], [0.2] (e), and [0.3] of joins.py: joined and Join."""

import random
import unittest

from rowasks.errors import Ended, NoRow, TooLate
from rowasks.joins import Join, joined
from things import GREAT_THINGS, NO_ROWS, ODD_THINGS, refusal, some_log


def both_by_moments(one, other):
    """Rows of both sides as (side, row), those of the one ahead of those of the other of their moment."""
    rows = [(row[0], 0, place, row) for place, row in enumerate(one)]
    rows += [(row[0], 1, place, row) for place, row in enumerate(other)]
    return [(side, row) for moment, side, place, row in sorted(rows)]


def plain_joined(one, other, width):
    places = {}
    for place, (side, row) in enumerate(both_by_moments(one, other)):
        places.setdefault(side, []).append(place)
    couples = []
    for ones_place, ones in zip(places.get(0, []), one):
        for others_place, others in zip(places.get(1, []), other):
            if ones[1] == others[1] and abs(ones[0] - others[0]) <= width:
                later = max(ones_place, others_place)
                earlier = min(ones_place, others_place)
                couples.append((later, earlier, (max(ones[0], others[0]), ones[1], ones[2], others[2])))
    return [couple for later, earlier, couple in sorted(couples)]


class Joined(unittest.TestCase):
    def test_no_rows(self):
        self.assertEqual(joined([], [], 0), [])
        self.assertEqual(joined([(1, "a", 1)], [], 5), [])
        self.assertEqual(joined([], [(1, "a", 1)], 5), [])

    def test_width_0(self):
        self.assertEqual(joined([(1, "a", 1), (3, "a", 2)], [(1, "a", 5), (2, "a", 6), (3, "a", 7)], 0),
                         [(1, "a", 1, 5), (3, "a", 2, 7)])

    def test_just_so_far_and_one_more(self):
        one = [(10, "a", 1)]
        other = [(6, "a", 2), (7, "a", 3), (13, "a", 4), (14, "a", 5)]
        self.assertEqual(joined(one, other, 3), [(10, "a", 1, 3), (13, "a", 1, 4)])
        self.assertEqual(joined(other, one, 3), [(10, "a", 3, 1), (13, "a", 4, 1)])
        self.assertEqual(len(joined(one, other, 4)), 4)
        self.assertEqual(joined(one, other, 2), [])

    def test_the_later_moment_and_the_ones_number_first(self):
        self.assertEqual(joined([(2, "a", 1)], [(5, "a", -9)], 9), [(5, "a", 1, -9)])
        self.assertEqual(joined([(5, "a", 1)], [(2, "a", -9)], 9), [(5, "a", 1, -9)])

    def test_keys_that_stand_on_one_side_alone(self):
        self.assertEqual(joined([(0, "a", 1), (0, "b", 2), (0, "ab", 3)], [(0, "b", 4), (0, "c", 5), (1, "ba", 6)], 9),
                         [(0, "b", 2, 4)])

    def test_rows_of_one_moment_on_both_sides(self):
        # The one's rows are ahead, so each of the other's is the later row, met by the one's as they stand.
        self.assertEqual(joined([(4, "a", 1), (4, "a", 2)], [(4, "a", 8), (4, "a", 9)], 0),
                         [(4, "a", 1, 8), (4, "a", 2, 8), (4, "a", 1, 9), (4, "a", 2, 9)])

    def test_by_the_later_row_then_by_the_earlier_one(self):
        one = [(0, "a", 1), (2, "a", 2), (2, "b", 3), (4, "a", 4)]
        other = [(1, "a", 5), (2, "b", 6), (2, "a", 7), (4, "b", 8)]
        self.assertEqual(joined(one, other, 2),
                         [(1, "a", 1, 5), (2, "a", 2, 5), (2, "b", 3, 6), (2, "a", 1, 7), (2, "a", 2, 7),
                          (4, "a", 4, 7), (4, "b", 3, 8)])

    def test_like_couples_are_all_told(self):
        self.assertEqual(joined([(1, "a", 1), (1, "a", 1)], [(2, "a", 1)], 1), [(2, "a", 1, 1), (2, "a", 1, 1)])

    def test_width_beyond_all_moments(self):
        for width in [99, 100, 10 ** 30]:
            self.assertEqual(joined([(0, "a", 1)], [(99, "a", 2)], width), [(99, "a", 1, 2)])
        self.assertEqual(joined([(0, "a", 1)], [(99, "a", 2)], 98), [])

    def test_against_a_plain_telling(self):
        chance = random.Random(60)
        for turn in range(2000):
            one = some_log(chance)
            other = some_log(chance)
            width = chance.choice([0, 1, 2, 5, 20, 99])
            with self.subTest(one=one, other=other, width=width):
                self.assertEqual(joined(one, other, width), plain_joined(one, other, width))

    def test_lists(self):
        one = [(0, "a", 1)]
        other = [(0, "a", 2)]
        told = joined(one, other, 0)
        self.assertIs(type(told), list)
        self.assertIs(type(told[0]), tuple)
        told.clear()
        self.assertEqual([one, other], [[(0, "a", 1)], [(0, "a", 2)]])
        self.assertEqual(joined(one, other, 0), [(0, "a", 1, 2)])
        joined(one, one, 0).clear()
        self.assertEqual(one, [(0, "a", 1)])


class JoinedRefusals(unittest.TestCase):
    LOG = [(3, "a", 1), (5, "b", 2)]
    LATE = [(5, "a", 1), (4, "a", 1)]

    def test_no_row(self):
        for thing in NO_ROWS + ODD_THINGS + GREAT_THINGS:
            self.assertIs(refusal(joined, [thing], [], 1), NoRow)
            self.assertIs(refusal(joined, [], [thing], 1), NoRow)
            self.assertIs(refusal(joined, self.LOG + [thing], self.LOG, 1), NoRow)
            self.assertIs(refusal(joined, self.LOG, self.LOG + [thing], 1), NoRow)

    def test_too_late(self):
        self.assertIs(refusal(joined, self.LATE, [], 1), TooLate)
        self.assertIs(refusal(joined, [], self.LATE, 1), TooLate)
        self.assertIs(refusal(joined, self.LOG, self.LATE, 1), TooLate)
        # Either log by itself may begin ahead of the other's end.
        self.assertIsNone(refusal(joined, [(9, "a", 1)], [(0, "a", 1)], 1))

    def test_no_row_of_either_ahead_of_too_late(self):
        for thing in NO_ROWS + GREAT_THINGS:
            self.assertIs(refusal(joined, self.LATE, [thing], 1), NoRow)
            self.assertIs(refusal(joined, [thing], self.LATE, 1), NoRow)
            self.assertIs(refusal(joined, self.LATE + [thing], [], 1), NoRow)
            self.assertIs(refusal(joined, [], self.LATE + [thing], 1), NoRow)


class RowByRow(unittest.TestCase):
    def test_against_joined(self):
        chance = random.Random(61)
        for turn in range(1000):
            one = some_log(chance)
            other = some_log(chance)
            width = chance.choice([0, 1, 2, 5, 20, 99])
            join = Join(width)
            told = sum([join.take(side, row) for side, row in both_by_moments(one, other)], [])
            self.assertEqual(told, joined(one, other, width))

    def test_each_couple_when_its_later_row_comes(self):
        join = Join(2)
        self.assertEqual(join.take(0, (1, "a", 1)), [])
        self.assertEqual(join.take(0, (2, "a", 2)), [])
        self.assertEqual(join.take(1, (3, "b", 3)), [])
        self.assertEqual(join.take(1, (3, "a", 4)), [(3, "a", 1, 4), (3, "a", 2, 4)])
        self.assertEqual(join.take(1, (4, "a", 5)), [(4, "a", 2, 5)])
        self.assertEqual(join.take(0, (5, "a", 6)), [(5, "a", 6, 4), (5, "a", 6, 5)])
        self.assertEqual(join.take(0, (5, "b", 7)), [(5, "b", 7, 3)])

    def test_of_one_moment_the_row_that_comes_later_tells(self):
        join = Join(0)
        self.assertEqual(join.take(1, (4, "a", 8)), [])
        self.assertEqual(join.take(0, (4, "a", 1)), [(4, "a", 1, 8)])
        self.assertEqual(join.take(1, (4, "a", 9)), [(4, "a", 1, 9)])
        self.assertEqual(join.take(0, (4, "a", 2)), [(4, "a", 2, 8), (4, "a", 2, 9)])

    def test_room(self):
        join = Join(2)
        self.assertEqual(join.room(), 0)
        for side, row, room in [(0, (1, "a", 1), 1), (1, (1, "b", 1), 2), (1, (2, "a", 1), 3), (0, (3, "c", 1), 4),
                                (0, (3, "a", 1), 5), (1, (4, "z", 1), 4), (1, (6, "a", 1), 2), (0, (99, "a", 1), 1)]:
            join.take(side, row)
            self.assertEqual(join.room(), room)

    def test_room_of_width_0(self):
        join = Join(0)
        rooms = []
        for side, row in [(0, (1, "a", 1)), (1, (1, "a", 1)), (1, (2, "b", 1)), (1, (2, "b", 1)), (0, (3, "a", 1))]:
            join.take(side, row)
            rooms.append(join.room())
        self.assertEqual(rooms, [1, 2, 1, 2, 1])

    def test_a_width_below_0_is_not_refused(self):
        self.assertEqual(joined([(3, "a", 1)], [(3, "a", 2)], -1), [])
        meeting = Join(-1)
        self.assertEqual(meeting.take(0, (3, "a", 1)), [])
        self.assertEqual(meeting.take(1, (3, "a", 2)), [])
        self.assertEqual(meeting.room(), 0)

    def test_room_against_a_plain_telling(self):
        chance = random.Random(62)
        for turn in range(500):
            width = chance.choice([0, 1, 2, 5, 20])
            rows = both_by_moments(some_log(chance), some_log(chance))
            join = Join(width)
            for many in range(1, len(rows) + 1):
                join.take(*rows[many - 1])
                last = rows[many - 1][1][0]
                expected = len([row for side, row in rows[:many] if row[0] >= last - width])
                self.assertEqual(join.room(), expected)
            room = join.room()
            self.assertEqual(join.end(), room)

    def test_end(self):
        self.assertEqual(Join(3).end(), 0)
        join = Join(3)
        join.take(0, (1, "a", 1))
        join.take(1, (9, "a", 1))
        join.take(1, (9, "b", 1))
        self.assertEqual(join.end(), 2)
        self.assertEqual(join.room(), 2)

    def test_told_lists_may_be_changed(self):
        join = Join(9)
        join.take(0, (1, "a", 1)).append((0, "x", 0, 0))
        join.take(1, (1, "a", 2)).clear()
        self.assertEqual(join.take(1, (2, "a", 3)), [(2, "a", 1, 3)])
        self.assertEqual(join.room(), 3)

    def test_two_joins_side_by_side(self):
        one = Join(9)
        other = Join(9)
        one.take(0, (5, "a", 1))
        self.assertEqual(other.take(1, (4, "a", 1)), [])
        self.assertEqual([one.room(), other.room()], [1, 1])
        other.end()
        self.assertEqual(one.take(1, (5, "a", 2)), [(5, "a", 1, 2)])


class RowByRowRefusals(unittest.TestCase):
    def join(self):
        join = Join(2)
        join.take(0, (5, "a", 1))
        return join

    def test_no_row(self):
        join = self.join()
        for thing in NO_ROWS + ODD_THINGS + GREAT_THINGS:
            for side in [0, 1]:
                self.assertIs(refusal(join.take, side, thing), NoRow)
                self.assertIs(refusal(Join(0).take, side, thing), NoRow)

    def test_too_late_whatever_the_side(self):
        for side in [0, 1]:
            join = self.join()
            self.assertIs(refusal(join.take, side, (4, "a", 1)), TooLate)
            self.assertIs(refusal(join.take, side, (0, "b", 1)), TooLate)
            self.assertIsNone(refusal(join.take, side, (5, "a", 1)))

    def test_no_row_ahead_of_too_late(self):
        for thing in [(4, "a", 100), (4, "A", 1), (-1, "a", 1)]:
            self.assertIs(refusal(self.join().take, 1, thing), NoRow)

    def test_ended(self):
        join = self.join()
        join.end()
        for thing in [(5, "a", 1), (9, "a", 1), (4, "a", 1), (4, "a", 100)] + NO_ROWS + GREAT_THINGS:
            for side in [0, 1]:
                self.assertIs(refusal(join.take, side, thing), Ended)
        self.assertIs(refusal(join.end), Ended)
        self.assertEqual(join.room(), 1)

    def test_what_is_refused_changes_nothing(self):
        join = self.join()
        refusal(join.take, 1, (99, "a", 100))
        refusal(join.take, 1, (4, "a", 7))
        self.assertEqual(join.room(), 1)
        self.assertEqual(join.take(1, (6, "a", 2)), [(6, "a", 1, 2)])
        self.assertEqual(join.take(0, (7, "a", 3)), [(7, "a", 3, 2)])


if __name__ == "__main__":
    unittest.main()
