"""[11.1], [11.2], [0.2] (i), and [0.3] of the class Desk."""

import random
import unittest

from rowasks.asks import asked
from rowasks.desks import Desk
from rowasks.errors import AskError, Full, NoAsk, NoBack, NoName, NoRow, TooLate
from things import GREAT, GREAT_THINGS, NO_ASKS, NO_ROWS, ODD_THINGS, desk_of, refusal, some_ask

RUNNING = (("running",),)
OF_A = (("key", "a"),)
NAMES = ["a", "bb", "ccc", "dddd", "eeeee", "zzzzzz"]
NO_NAMES = [None, True, False, 0, 1, "", "A", "aB", "abcdefg", "a1", "1", "a b", " a", "a ", "a\n", "a-", "_", "{", "`",
            [], ["a"], [["a"]], (), ("a",), [[[[["a"]]]]], ((((("a",),),),),), GREAT, -GREAT, [GREAT], (GREAT,)]


def state(desk):
    return (desk.rows(), [(name, desk.ask_of(name)) for name in desk.names()], desk.counts())


def whole_state(desk):
    """The state, and all those that back and forth lead to from there; the desk stays where it is."""
    found = []
    for move, other in [(desk.back, desk.forth), (desk.forth, desk.back)]:
        many = 0
        while refusal(move) is None:
            many += 1
            found.append(state(desk))
        for turn in range(many):
            other()
    return (state(desk), found)


class PlainDesk:
    """A plain telling of the document: all steps that were done, and how many of them hold."""

    def __init__(self):
        self.steps = []
        self.hold = 0

    def now(self):
        rows, asks = [], {}
        for word, thing, ask in self.steps[:self.hold]:
            if word == "add":
                rows.append(thing)
            elif word == "hang":
                asks[thing] = ask
            else:
                asks.pop(thing)
        return rows, asks

    def do(self, *step):
        self.steps = self.steps[:self.hold] + [step]
        self.hold += 1

    def add(self, row):
        rows, asks = self.now()
        if rows and rows[-1][0] > row[0]:
            return TooLate
        if len(rows) == 12:
            return Full
        return self.do("add", row, None)

    def hang(self, name, ask):
        rows, asks = self.now()
        if len([other for other in asks if other != name]) == 6:
            return Full
        self.do("hang", name, ask)
        return name in asks

    def lose(self, name):
        rows, asks = self.now()
        if name not in asks:
            return NoName
        self.do("lose", name, None)
        return asks[name]

    def ask_of(self, name):
        return self.now()[1].get(name, NoName)

    def answer(self, name):
        rows, asks = self.now()
        return asked(asks[name], rows) if name in asks else NoName

    def names(self):
        return sorted(self.now()[1])

    def rows(self):
        return self.now()[0]

    def back(self):
        if self.hold == 0:
            return NoBack
        self.hold -= 1
        return self.steps[self.hold][0]

    def forth(self):
        if self.hold == len(self.steps):
            return NoBack
        self.hold += 1
        return self.steps[self.hold - 1][0]

    def counts(self):
        return (self.hold, len(self.steps) - self.hold)

    def twin(self):
        other = PlainDesk()
        other.steps, other.hold = list(self.steps), self.hold
        return other


def told(desk, word, handed):
    try:
        return getattr(desk, word)(*handed)
    except AskError as error:
        return type(error)


def some_deed(chance, newest):
    word = chance.choice(["add", "add", "add", "hang", "hang", "lose", "back", "back", "forth", "ask_of", "answer"])
    name = chance.choice(NAMES + ["b", "c"])
    if word == "add":
        return word, [(max(0, min(99, newest + chance.choice([-2, -1, 0, 0, 1, 1, 2, 5]))), chance.choice("ab"),
                       chance.randint(-9, 9))]
    if word == "hang":
        return word, [name, some_ask(chance)]
    return word, [] if word in ["back", "forth"] else [name]


class Turns(unittest.TestCase):
    def check(self, desk, plain):
        for word in ["rows", "names", "counts"]:
            self.assertEqual(told(desk, word, []), told(plain, word, []))
        for name in plain.names():
            self.assertEqual(desk.ask_of(name), plain.ask_of(name))
            self.assertEqual(desk.answer(name), plain.answer(name))

    def test_against_a_plain_telling(self):
        chance = random.Random(110)
        seen = set()
        for turn in range(150):
            desks = [(Desk(), PlainDesk())]
            for deed in range(80):
                desk, plain = chance.choice(desks)
                word, handed = some_deed(chance, plain.rows()[-1][0] if plain.rows() else 0)
                one, other = told(desk, word, handed), told(plain, word, handed)
                self.assertEqual((word, one), (word, other))
                self.assertIs(type(one), type(other))
                seen.add((word, one if isinstance(one, type) else None))
                if chance.random() < 0.03:
                    desks.append((desk.twin(), plain.twin()))
                for pair in desks:
                    self.check(*pair)
        for case in [("add", TooLate), ("add", Full), ("hang", Full), ("lose", NoName), ("ask_of", NoName),
                     ("answer", NoName), ("back", NoBack), ("forth", NoBack)]:
            self.assertIn(case, seen)


class New(unittest.TestCase):
    def test_nothing_is_there(self):
        desk = Desk()
        self.assertEqual(desk.rows(), [])
        self.assertEqual(desk.names(), [])
        self.assertEqual(desk.counts(), (0, 0))

    def test_two_desks_side_by_side(self):
        one, other = Desk(), Desk()
        one.add((1, "a", 1))
        one.hang("a", OF_A)
        self.assertEqual(state(other), ([], [], (0, 0)))


class Add(unittest.TestCase):
    def test_rows_more(self):
        desk = Desk()
        self.assertIs(desk.add((5, "b", 1)), None)
        self.assertIs(desk.add((5, "a", 2)), None)
        self.assertIs(desk.add((99, "a", -99)), None)
        self.assertEqual(desk.rows(), [(5, "b", 1), (5, "a", 2), (99, "a", -99)])

    def test_no_row(self):
        for rows in [[], [(5, "a", 1)], [(99, "a", 1)] * 12]:
            desk = desk_of(rows, {})
            for thing in NO_ROWS + ODD_THINGS + GREAT_THINGS:
                self.assertIs(refusal(desk.add, thing), NoRow)
            self.assertEqual(desk.rows(), rows)
            self.assertEqual(desk.counts(), (len(rows), 0))

    def test_too_late(self):
        desk = desk_of([(5, "a", 1), (7, "b", 1)], {})
        for moment in [0, 5, 6]:
            self.assertIs(refusal(desk.add, (moment, "a", 1)), TooLate)
        self.assertEqual(desk.rows(), [(5, "a", 1), (7, "b", 1)])
        self.assertIs(refusal(desk.add, (7, "a", 1)), None)

    def test_not_too_late_when_the_later_row_was_taken_back(self):
        desk = desk_of([(5, "a", 1), (7, "b", 1)], {})
        desk.back()
        desk.add((6, "c", 1))
        self.assertEqual(desk.rows(), [(5, "a", 1), (6, "c", 1)])

    def test_full(self):
        desk = desk_of([(moment, "a", 1) for moment in range(11)], {})
        self.assertIs(refusal(desk.add, (11, "a", 1)), None)
        self.assertIs(refusal(desk.add, (12, "a", 1)), Full)
        self.assertIs(refusal(desk.add, (10, "a", 1)), TooLate)
        self.assertEqual(desk.counts(), (12, 0))
        desk.back()
        self.assertIs(refusal(desk.add, (12, "a", 1)), None)

    def test_rows_are_a_new_list_each_time(self):
        desk = desk_of([(5, "a", 1)], {"all": ()})
        for call in [desk.rows, lambda: desk.answer("all"), lambda: desk.rows()]:
            call().append((7, "b", 2))
            call().clear()
            self.assertEqual(desk.rows(), [(5, "a", 1)])
            self.assertEqual(desk.answer("all"), [(5, "a", 1)])


class Hang(unittest.TestCase):
    def test_told_is_whether_one_had_the_name(self):
        desk = Desk()
        self.assertIs(desk.hang("a", OF_A), False)
        self.assertIs(desk.hang("a", RUNNING), True)
        self.assertIs(desk.hang("a", RUNNING), True)
        self.assertIs(desk.hang("b", RUNNING), False)
        self.assertEqual((desk.ask_of("a"), desk.ask_of("b")), (RUNNING, RUNNING))
        desk.lose("a")
        self.assertIs(desk.hang("a", ()), False)
        self.assertEqual(desk.ask_of("a"), ())

    def test_no_ask(self):
        desk = desk_of([], {name: () for name in NAMES})
        for thing in NO_ASKS + ODD_THINGS + GREAT_THINGS:
            for name in ["a", "seven"] + NO_NAMES:
                self.assertIs(refusal(desk.hang, name, thing), NoAsk)
        self.assertEqual(desk.counts(), (6, 0))

    def test_no_name(self):
        for desk in [Desk(), desk_of([], {name: () for name in NAMES})]:
            for name in NO_NAMES:
                self.assertIs(refusal(desk.hang, name, OF_A), NoName)

    def test_names(self):
        for name in NAMES + ["abcdef", "z", "zz"]:
            self.assertIs(Desk().hang(name, OF_A), False)

    def test_full(self):
        desk = desk_of([], {name: () for name in NAMES[:5]})
        self.assertIs(desk.hang(NAMES[5], OF_A), False)
        self.assertIs(refusal(desk.hang, "seven", OF_A), Full)
        for name in NAMES:
            self.assertIs(desk.hang(name, RUNNING), True)
        self.assertEqual(desk.names(), NAMES)
        desk.lose("a")
        self.assertIs(desk.hang("seven", OF_A), False)
        self.assertIs(refusal(desk.hang, "a", OF_A), Full)

    def test_names_rise_and_are_a_new_list_each_time(self):
        desk = desk_of([], {"c": (), "ab": (), "b": (), "a": ()})
        self.assertEqual(desk.names(), ["a", "ab", "b", "c"])
        desk.names().clear()
        desk.names().append("z")
        self.assertEqual(desk.names(), ["a", "ab", "b", "c"])


class ByNames(unittest.TestCase):
    def test_lose(self):
        desk = desk_of([], {"a": OF_A, "b": RUNNING})
        self.assertEqual(desk.lose("a"), OF_A)
        self.assertEqual(desk.names(), ["b"])
        self.assertIs(refusal(desk.lose, "a"), NoName)
        self.assertEqual(desk.lose("b"), RUNNING)
        self.assertEqual(desk.counts(), (4, 0))

    def test_ask_of_and_answer(self):
        desk = desk_of([(1, "a", 2), (3, "b", 4), (5, "a", 6)], {"own": OF_A, "sum": RUNNING, "all": ()})
        self.assertEqual(desk.ask_of("own"), OF_A)
        self.assertEqual(desk.answer("own"), [(1, "a", 2), (5, "a", 6)])
        self.assertEqual(desk.answer("sum"), [(1, "a", 2), (3, "b", 4), (5, "a", 8)])
        self.assertEqual(desk.answer("all"), desk.rows())
        self.assertEqual(desk.counts(), (6, 0))

    def test_no_name(self):
        desk = desk_of([(1, "a", 1)], {"a": OF_A})
        for call in [desk.lose, desk.ask_of, desk.answer]:
            for name in NO_NAMES + ["b", "aa", "abcdef"]:
                self.assertIs(refusal(call, name), NoName)
        self.assertEqual(state(desk), ([(1, "a", 1)], [("a", OF_A)], (2, 0)))

    def test_no_name_once_it_is_lost_or_taken_back(self):
        desk = desk_of([], {"a": OF_A})
        desk.back()
        for call in [desk.lose, desk.ask_of, desk.answer]:
            self.assertIs(refusal(call, "a"), NoName)


class BackAndForth(unittest.TestCase):
    def test_through_all_that_was(self):
        desk = Desk()
        deeds = [("add", [(1, "a", 1)]), ("hang", ["a", OF_A]), ("hang", ["a", RUNNING]), ("hang", ["a", RUNNING]),
                 ("add", [(2, "a", 1)]), ("lose", ["a"]), ("hang", ["b", ()]), ("lose", ["b"]), ("add", [(2, "b", 0)])]
        states = [(desk.rows(), desk.names())]
        for word, handed in deeds:
            told(desk, word, handed)
            states.append((desk.rows(), desk.names()))
        for turn in range(2):
            for place in range(len(deeds) - 1, -1, -1):
                self.assertEqual(desk.back(), deeds[place][0])
                self.assertEqual((desk.rows(), desk.names()), states[place])
                self.assertEqual(desk.counts(), (place, len(deeds) - place))
            self.assertIs(refusal(desk.back), NoBack)
            for place, deed in enumerate(deeds):
                self.assertEqual(desk.forth(), deed[0])
                self.assertEqual((desk.rows(), desk.names()), states[place + 1])
                self.assertEqual(desk.counts(), (place + 1, len(deeds) - place - 1))
            self.assertIs(refusal(desk.forth), NoBack)

    def test_a_hang_that_changed_nothing(self):
        desk = desk_of([], {"a": OF_A})
        desk.hang("a", OF_A)
        self.assertEqual(desk.counts(), (2, 0))
        self.assertEqual(desk.back(), "hang")
        self.assertEqual(desk.ask_of("a"), OF_A)
        self.assertEqual(desk.counts(), (1, 1))
        self.assertEqual(desk.forth(), "hang")

    def test_the_ask_that_had_the_name_is_there_again(self):
        desk = desk_of([], {"a": OF_A})
        desk.hang("a", RUNNING)
        desk.lose("a")
        desk.back()
        self.assertEqual(desk.ask_of("a"), RUNNING)
        desk.back()
        self.assertEqual(desk.ask_of("a"), OF_A)

    def test_nothing_to_take_back_or_do_again(self):
        desk = Desk()
        self.assertIs(refusal(desk.back), NoBack)
        self.assertIs(refusal(desk.forth), NoBack)
        desk.add((1, "a", 1))
        self.assertIs(refusal(desk.forth), NoBack)
        self.assertEqual(state(desk), ([(1, "a", 1)], [], (1, 0)))

    def test_another_step_ends_what_can_be_done_again(self):
        for word, handed in [("add", [(9, "b", 1)]), ("hang", ["a", OF_A]), ("hang", ["b", ()]), ("lose", ["a"])]:
            desk = desk_of([(1, "a", 1)], {"a": OF_A, "b": RUNNING, "c": RUNNING})
            desk.back()
            desk.back()
            self.assertEqual(desk.counts(), (2, 2))
            told(desk, word, handed)
            self.assertEqual(desk.counts(), (3, 0))
            self.assertIs(refusal(desk.forth), NoBack)
            self.assertEqual(desk.back(), word)
            self.assertEqual(state(desk), ([(1, "a", 1)], [("a", OF_A)], (2, 1)))

    def test_a_look_does_not_end_it(self):
        desk = desk_of([(1, "a", 1), (2, "a", 1)], {"a": OF_A})
        desk.back()
        desk.hang("b", ())
        desk.back()
        desk.back()
        for call in [desk.rows, desk.names, desk.counts, desk.twin]:
            call()
        self.assertEqual(desk.counts(), (1, 2))
        self.assertEqual([desk.forth(), desk.forth()], ["add", "hang"])
        self.assertEqual(desk.answer("b"), desk.rows())
        self.assertEqual(desk.counts(), (3, 0))

    def test_a_refused_deed_changes_nothing(self):
        desk = desk_of([(moment, "a", 1) for moment in range(1, 13)], {name: OF_A for name in NAMES})
        desk.hang("a", RUNNING)
        desk.hang("bb", RUNNING)
        desk.back()
        desk.back()
        ahead = whole_state(desk)
        for word, handed, why in [
                ("add", [None], NoRow), ("add", [(1, "a", 1)], TooLate), ("add", [(12, "a", 1)], Full),
                ("hang", ["a", None], NoAsk), ("hang", ["A", ()], NoName), ("hang", ["seven", ()], Full),
                ("lose", ["seven"], NoName), ("lose", [[]], NoName), ("ask_of", ["seven"], NoName),
                ("answer", [None], NoName)]:
            self.assertIs(told(desk, word, handed), why)
            self.assertEqual(desk.counts(), (18, 2))
            self.assertEqual(whole_state(desk), ahead)

    def test_a_refused_back_or_forth_changes_nothing(self):
        desk = desk_of([(1, "a", 1)], {"a": OF_A})
        self.assertIs(refusal(desk.forth), NoBack)
        self.assertEqual(state(desk), ([(1, "a", 1)], [("a", OF_A)], (2, 0)))
        desk.back()
        desk.back()
        self.assertIs(refusal(desk.back), NoBack)
        self.assertEqual(state(desk), ([], [], (0, 2)))

    def test_counts_is_a_tuple(self):
        self.assertIs(type(Desk().counts()), tuple)


class Twin(unittest.TestCase):
    def made(self):
        desk = desk_of([(1, "a", 1), (2, "b", 2)], {"a": OF_A, "b": RUNNING})
        desk.lose("a")
        desk.back()
        desk.back()
        return desk

    def test_as_this_one(self):
        desk = self.made()
        other = desk.twin()
        self.assertIsInstance(other, Desk)
        self.assertIsNot(other, desk)
        self.assertEqual(whole_state(other), whole_state(desk))
        self.assertEqual(other.counts(), (3, 2))

    def test_each_goes_by_itself(self):
        deeds = [("add", [(5, "c", 5)]), ("hang", ["c", ()]), ("hang", ["a", RUNNING]), ("lose", ["a"]), ("back", []),
                 ("forth", [])]
        for word, handed in deeds:
            for first in [0, 1]:
                desk = self.made()
                pair = [desk, desk.twin()]
                ahead = whole_state(desk)
                told(pair[first], word, handed)
                self.assertEqual(whole_state(pair[1 - first]), ahead)
                self.assertNotEqual(whole_state(pair[first]), ahead)

    def test_of_a_new_desk(self):
        desk = Desk()
        other = desk.twin()
        desk.add((1, "a", 1))
        desk.hang("a", OF_A)
        self.assertEqual(state(other), ([], [], (0, 0)))

    def test_a_twin_of_a_twin(self):
        desk = self.made()
        third = desk.twin().twin()
        while refusal(desk.back) is None:
            pass
        self.assertEqual(third.counts(), (3, 2))
        self.assertEqual(third.rows(), [(1, "a", 1), (2, "b", 2)])


if __name__ == "__main__":
    unittest.main()
