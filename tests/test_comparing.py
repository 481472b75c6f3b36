"""[14.1], [0.2] (j), and [0.3] of comparing.py."""

import random
import unittest

from rowasks.asks import asked, is_ask
from rowasks.comparing import alike_asks, behind, needed_steps, row_flow, same_answers
from rowasks.errors import NoAsk, NoRow, TooLate
from things import GREAT_THINGS, NO_ASKS, NO_ROWS, ODD_THINGS, plain_step, refusal, some_ask, some_log

LOG = [(0, "a", 5), (1, "b", -2), (4, "a", 7), (4, "a", 7), (6, "b", 0)]
OUT_OF_ORDER = [(5, "a", 1), (4, "a", 1)]
RUNNING = (("running",),)
OF_A = (("key", "a"),)
CALLS = [lambda ask, rows: same_answers(ask, (), rows), lambda ask, rows: same_answers((), ask, rows),
         lambda ask, rows: alike_asks([ask], rows), lambda ask, rows: alike_asks(((), RUNNING, ask), rows),
         needed_steps, row_flow]


class Behind(unittest.TestCase):
    def test_steps_one_behind_the_other(self):
        self.assertEqual(behind((), ()), ())
        self.assertEqual(behind(OF_A, ()), OF_A)
        self.assertEqual(behind((), OF_A), OF_A)
        self.assertEqual(behind(OF_A, RUNNING), (("key", "a"), ("running",)))
        self.assertEqual(behind(RUNNING * 2, OF_A * 3), RUNNING * 2 + OF_A * 3)

    def test_too_many_steps(self):
        for many in range(6):
            self.assertEqual(behind(RUNNING * many, OF_A * (5 - many)), RUNNING * many + OF_A * (5 - many))
            self.assertIs(refusal(behind, RUNNING * many, OF_A * (6 - many)), NoAsk)
        self.assertIs(refusal(behind, RUNNING * 5, RUNNING * 5), NoAsk)
        self.assertIs(refusal(behind, RUNNING * 6, ()), NoAsk)
        self.assertIs(refusal(behind, (), RUNNING * 6), NoAsk)

    def test_no_ask(self):
        for thing in NO_ASKS + ODD_THINGS + GREAT_THINGS:
            self.assertIs(refusal(behind, thing, ()), NoAsk)
            self.assertIs(refusal(behind, (), thing), NoAsk)
            self.assertIs(refusal(behind, thing, thing), NoAsk)

    def test_it_makes_what_the_other_makes_of_the_answer(self):
        chance = random.Random(140)
        for turn in range(1000):
            ask, rows = some_ask(chance), some_log(chance)
            place = chance.randint(0, len(ask))
            told = asked(ask[:place], rows)
            for step in ask[place:]:
                told = plain_step(step, told)
            self.assertEqual(asked(behind(ask[:place], ask[place:]), rows), told)

    def test_of_an_answer_that_is_a_log_itself(self):
        chance = random.Random(141)
        for turn in range(500):
            rows = some_log(chance)
            one, other = (("key", "a"), ("over", 0)), (("running",), chance.choice([("window", 3), ("each", 2)]))
            self.assertEqual(asked(behind(one, other), rows), asked(other, asked(one, rows)))


class SameAnswers(unittest.TestCase):
    def test_true_and_false(self):
        self.assertIs(same_answers((), (), LOG), True)
        self.assertIs(same_answers((), (("over", -3),), LOG), True)
        self.assertIs(same_answers((), (("over", -2),), LOG), False)
        self.assertIs(same_answers((("plus", 1),), (("plus", 1),), LOG), True)
        self.assertIs(same_answers((("plus", 1),), (("plus", 2),), LOG), False)
        self.assertIs(same_answers((("plus", 1),), (("plus", 2),), []), True)
        self.assertIs(same_answers((("first", 2),), (("first", 1),), LOG), False)

    def test_the_order_of_rows_counts(self):
        rows = [(1, "b", 1), (1, "a", 1)]
        self.assertIs(same_answers((("window", 2),), (), rows), False)
        self.assertIs(same_answers((("window", 2),), (), rows[::-1]), True)

    def test_against_asked(self):
        chance = random.Random(142)
        for turn in range(1000):
            one, other, rows = some_ask(chance), some_ask(chance), some_log(chance)
            self.assertIs(same_answers(one, other, rows), asked(one, rows) == asked(other, rows))
            self.assertIs(same_answers(other, one, rows), same_answers(one, other, rows))

    def test_no_ask_of_either_ahead_of_others(self):
        for rows in [LOG, [None], OUT_OF_ORDER]:
            self.assertIs(refusal(same_answers, None, (), rows), NoAsk)
            self.assertIs(refusal(same_answers, (), None, rows), NoAsk)


class AlikeAsks(unittest.TestCase):
    def test_no_asks(self):
        self.assertEqual(alike_asks([], LOG), [])
        self.assertEqual(alike_asks((), []), [])

    def test_one_group(self):
        self.assertEqual(alike_asks([OF_A], LOG), [[0]])
        self.assertEqual(alike_asks([OF_A, RUNNING, ()], []), [[0, 1, 2]])

    def test_several_groups(self):
        asks = [RUNNING, (), OF_A, (("plus", 0),), (("under", 6), ("key", "c")), (("key", "a"), ("over", 0)), (),
                (("over", 20),)]
        told = [[0], [1, 3, 6], [2, 5], [4, 7]]
        self.assertEqual(alike_asks(asks, LOG), told)
        self.assertEqual(alike_asks(tuple(asks), LOG), told)

    def test_against_a_plain_telling(self):
        chance = random.Random(143)
        for turn in range(500):
            rows = some_log(chance)
            asks = [some_ask(chance) for ask in range(chance.randint(0, 9))]
            answers = [asked(ask, rows) for ask in asks]
            groups = [[k for k in range(len(asks)) if answers[k] == answer] for answer in answers]
            self.assertEqual(alike_asks(asks, rows), [group for k, group in enumerate(groups) if group[0] == k])

    def test_the_rows_are_looked_at_without_asks_too(self):
        self.assertIs(refusal(alike_asks, [], [None]), NoRow)
        self.assertIs(refusal(alike_asks, (), OUT_OF_ORDER), TooLate)

    def test_no_ask_of_any_ahead_of_others(self):
        for asks in [[None], [None, ()], [(), None], ((), (), RUNNING * 6)]:
            for rows in [LOG, [None], OUT_OF_ORDER]:
                self.assertIs(refusal(alike_asks, asks, rows), NoAsk)

    def test_lists_stay_and_are_new(self):
        asks = [(), OF_A, ()]
        told = alike_asks(asks, LOG)
        told[0].append(9)
        told.append([7])
        self.assertEqual(alike_asks(asks, LOG), [[0, 2], [1]])
        self.assertEqual(asks, [(), OF_A, ()])


class NeededSteps(unittest.TestCase):
    def test_no_steps(self):
        self.assertEqual(needed_steps((), LOG), [])

    def test_steps_that_do_and_do_not(self):
        self.assertEqual(needed_steps((("plus", 1),), LOG), [0])
        self.assertEqual(needed_steps((("plus", 0),), LOG), [])
        self.assertEqual(needed_steps((("plus", 0), ("key", "a"), ("over", -9), ("running",), ("first", 20)), LOG),
                         [1, 3])
        self.assertEqual(needed_steps((("plus", 1), ("times", 2), ("first", 1), ("window", 3), ("change",)), LOG),
                         [2, 4])

    def test_each_alone_is_left_out(self):
        # Either of the two does it, so none is needed alone.
        self.assertEqual(needed_steps((("key", "a"), ("key", "a")), LOG), [])
        self.assertEqual(needed_steps((("key", "a"), ("key", "b")), LOG), [0, 1])

    def test_no_rows(self):
        self.assertEqual(needed_steps((("plus", 1), ("key", "a"), ("window", 2)), []), [])

    def test_against_a_plain_telling(self):
        chance = random.Random(144)
        for turn in range(1000):
            ask, rows = some_ask(chance), some_log(chance)
            told = []
            for place in range(len(ask)):
                answer = rows
                for step in [step for k, step in enumerate(ask) if k != place]:
                    answer = plain_step(step, answer)
                if answer != asked(ask, rows):
                    told.append(place)
            self.assertEqual(needed_steps(ask, rows), told)


class RowFlow(unittest.TestCase):
    def test_no_steps(self):
        self.assertEqual(row_flow((), LOG), [5])
        self.assertEqual(row_flow((), []), [0])

    def test_steps(self):
        self.assertEqual(row_flow(OF_A, LOG), [5, 3])
        self.assertEqual(row_flow((("plus", 1), ("unlike",), ("window", 5), ("first", 2), ("change",)), LOG),
                         [5, 5, 4, 3, 2, 0])
        self.assertEqual(row_flow((("window", 20), ("key", "c")), LOG), [5, 2, 0])

    def test_against_a_plain_telling(self):
        chance = random.Random(145)
        for turn in range(1000):
            ask, rows = some_ask(chance), some_log(chance)
            told = [len(rows)]
            answer = rows
            for step in ask:
                answer = plain_step(step, answer)
                told.append(len(answer))
            self.assertEqual(row_flow(ask, rows), told)

    def test_an_ask_whose_beginning_alone_is_one(self):
        for rows in [LOG, [None], OUT_OF_ORDER]:
            self.assertIs(refusal(row_flow, (("running",), None), rows), NoAsk)
            self.assertIs(refusal(row_flow, RUNNING * 6, rows), NoAsk)
            self.assertIs(refusal(row_flow, [], rows), NoAsk)
            self.assertIs(refusal(row_flow, "", rows), NoAsk)


class AllOfThem(unittest.TestCase):
    def test_no_ask_then_no_row_then_too_late(self):
        for call in CALLS:
            for thing in NO_ASKS + ODD_THINGS + GREAT_THINGS:
                for rows in [[], LOG, [None], OUT_OF_ORDER]:
                    self.assertIs(refusal(call, thing, rows), NoAsk)
            for thing in NO_ROWS + ODD_THINGS + GREAT_THINGS:
                self.assertIs(refusal(call, (), [thing]), NoRow)
                self.assertIs(refusal(call, OF_A, OUT_OF_ORDER + [thing]), NoRow)
            self.assertIs(refusal(call, OF_A, OUT_OF_ORDER), TooLate)
            self.assertIs(refusal(call, (), OUT_OF_ORDER), TooLate)
            self.assertIs(refusal(call, OF_A, LOG), None)

    def test_rows_stay_and_lists_are_new(self):
        for call in CALLS[2:]:
            for log in [[], LOG]:
                rows = list(log)
                told = call(OF_A, rows)
                kept = list(told)
                told.append("more")
                self.assertEqual(call(OF_A, rows), kept)
                self.assertEqual(rows, log)

    def test_behind_tells_asks(self):
        self.assertTrue(is_ask(behind(OF_A, RUNNING)))


if __name__ == "__main__":
    unittest.main()
