"""[0.1], [0.2], [0.3] and the interface, over the whole program."""

import importlib
import inspect
import random
import unittest

from rowasks.asks import asked
from rowasks.comparing import alike_asks, behind, needed_steps, row_flow, same_answers
from rowasks.desks import Desk, desk_text, read_desk
from rowasks.errors import AskError
from rowasks.joins import Join, joined
from rowasks.late import Sorter
from rowasks.parting import by_keys_parted, from_to, keys_changed, merged, shifted
from rowasks.rows import in_order, is_log, log_text, read_log
from rowasks.simpler import is_empty, simpler
from rowasks.standing import at_moment, beside, history, unlike_at, weighed
from rowasks.stretches import going_on, longest, pauses, stretches
from rowasks.tables import as_rows, by_key, greatest, table_of
from rowasks.texts import ask_text, read_ask
from rowasks.walks import Walk
from things import GREAT_THINGS, NO_NUMBERS, ODD_THINGS, desk_of, some_ask, some_log

# How many arguments each function takes, as the interface has them.
FUNCTIONS = {
    "rows": {"is_row": 1, "is_log": 1, "in_order": 1, "log_text": 1, "read_log": 1},
    "asks": {"is_ask": 1, "asked": 2},
    "tables": {"table_of": 2, "led_together": 2, "coarser": 2, "by_key": 1, "greatest": 2, "as_rows": 1},
    "joins": {"joined": 3},
    "simpler": {"simpler": 1, "is_empty": 1},
    "texts": {"ask_text": 1, "read_ask": 1},
    "stretches": {"stretches": 2, "going_on": 3, "longest": 2, "pauses": 2},
    "standing": {"at_moment": 2, "history": 2, "weighed": 2, "beside": 2, "unlike_at": 3},
    "desks": {"desk_text": 1, "read_desk": 1},
    "parting": {"merged": 1, "by_keys_parted": 1, "from_to": 3, "shifted": 2, "keys_changed": 3},
    "comparing": {"behind": 2, "same_answers": 3, "alike_asks": 2, "needed_steps": 2, "row_flow": 2},
}
# The same of classes and of their methods, self left out.
CLASSES = {
    "walks": ("Walk", 1, {"take": 1, "end": 0, "room": 0}),
    "late": ("Sorter", 1, {"take": 1, "drop_or_take": 1, "end": 0, "waits": 0, "many_lost": 0}),
    "joins": ("Join", 1, {"take": 2, "end": 0, "room": 0}),
    "desks": ("Desk", 0, {"add": 1, "hang": 2, "lose": 1, "answer": 1, "ask_of": 1, "names": 0, "rows": 0, "back": 0,
                          "forth": 0, "counts": 0, "twin": 0}),
}

LOG = [(0, "b", 4), (1, "a", 1), (1, "a", -5), (3, "b", 1), (5, "a", 9), (20, "ab", 7)]
OTHER = [(0, "a", 2), (3, "b", 1), (5, "a", 0)]
ASK = (("key", "a"), ("running",))
# All that tells a list of what it makes of a log.
LISTS = [
    in_order, lambda rows: read_log(log_text(rows)), lambda rows: asked((), rows), lambda rows: asked(ASK, rows),
    lambda rows: by_key(table_of(3, rows)), lambda rows: greatest(table_of(3, rows), 2),
    lambda rows: as_rows(table_of(3, rows)), lambda rows: joined(rows, OTHER, 2), lambda rows: joined(OTHER, rows, 2),
    lambda rows: stretches(rows, 2), lambda rows: going_on(rows, 2, 3), lambda rows: pauses(rows, "a"),
    lambda rows: at_moment(rows, 4), lambda rows: history(rows, "a"), lambda rows: weighed(rows, 30),
    lambda rows: beside(rows, OTHER), lambda rows: beside(OTHER, rows), lambda rows: unlike_at(rows, OTHER, 4),
    lambda rows: merged([rows, OTHER]), by_keys_parted, lambda rows: from_to(rows, 1, 9), lambda rows: shifted(rows, 5),
    lambda rows: keys_changed(rows, "a", "c"), lambda rows: alike_asks([ASK, (), ASK], rows),
    lambda rows: needed_steps(ASK, rows), lambda rows: row_flow(ASK, rows),
]
# All that may be handed any thing in the stead of a row, an ask, a name, a gap, a moment or a desk's text.
OF_ANY_THING = [
    lambda thing: asked(thing, LOG), lambda thing: asked((), [thing]), lambda thing: asked(ASK, LOG + [thing]), Walk,
    lambda thing: Walk(ASK).take(thing), lambda thing: Sorter(2).take(thing),
    lambda thing: Sorter(2).drop_or_take(thing),
    lambda thing: table_of(3, [thing]), lambda thing: joined([thing], LOG, 2), lambda thing: joined(LOG, [thing], 2),
    lambda thing: Join(2).take(1, thing), simpler, is_empty,
    lambda thing: stretches([thing], 2), lambda thing: stretches(LOG, thing), lambda thing: going_on(LOG, thing, 3),
    lambda thing: going_on([thing], 2, 3), lambda thing: longest(LOG, thing), lambda thing: longest([thing], 2),
    lambda thing: pauses([thing], "a"),
    lambda thing: at_moment([thing], 3), lambda thing: at_moment(LOG, thing), lambda thing: history([thing], "a"),
    lambda thing: weighed([thing], 30), lambda thing: weighed(LOG, thing), lambda thing: beside([thing], LOG),
    lambda thing: beside(LOG, [thing]), lambda thing: unlike_at([thing], LOG, 3),
    lambda thing: unlike_at(LOG, [thing], 3),
    lambda thing: unlike_at(LOG, OTHER, thing),
    lambda thing: Desk().add(thing), lambda thing: Desk().hang("a", thing), lambda thing: Desk().hang(thing, ASK),
    lambda thing: Desk().lose(thing), lambda thing: Desk().ask_of(thing), lambda thing: Desk().answer(thing),
    read_desk,
    lambda thing: merged([[thing]]), lambda thing: by_keys_parted([thing]), lambda thing: from_to([thing], 0, 9),
    lambda thing: from_to(LOG, thing, 9), lambda thing: from_to(LOG, 0, thing), lambda thing: shifted([thing], 1),
    lambda thing: keys_changed([thing], "a", "b"),
    lambda thing: behind(thing, ()), lambda thing: behind((), thing), lambda thing: same_answers(thing, (), LOG),
    lambda thing: same_answers((), thing, LOG), lambda thing: same_answers((), (), [thing]),
    lambda thing: alike_asks([thing], LOG), lambda thing: alike_asks([()], [thing]),
    lambda thing: needed_steps(thing, LOG), lambda thing: needed_steps((), [thing]), lambda thing: row_flow(thing, LOG),
    lambda thing: row_flow((), [thing]),
]


def module(name):
    return importlib.import_module("rowasks." + name)


class Interface(unittest.TestCase):
    def check_arguments(self, call, many):
        kinds = [part.kind for part in inspect.signature(call).parameters.values()]
        self.assertEqual(kinds, [inspect.Parameter.POSITIONAL_OR_KEYWORD] * many)

    def test_functions(self):
        for name, functions in FUNCTIONS.items():
            for function, many in functions.items():
                with self.subTest(module=name, function=function):
                    self.check_arguments(getattr(module(name), function), many)

    def test_classes(self):
        for name, (kind, many, methods) in CLASSES.items():
            found = getattr(module(name), kind)
            self.assertTrue(inspect.isclass(found))
            self.check_arguments(found, many)
            for method, more in methods.items():
                with self.subTest(module=name, method=method):
                    self.check_arguments(getattr(found, method), more + 1)


class Lists(unittest.TestCase):
    def test_told_lists_may_be_changed_and_handed_in_ones_stay(self):
        for place, call in enumerate(LISTS):
            for log in [[], LOG[:1], LOG]:
                with self.subTest(place=place, log=log):
                    rows, expected = list(log), call(list(log))
                    told = call(rows)
                    self.assertIs(type(told), list)
                    told.append("more")
                    told.reverse()
                    self.assertEqual(rows, log)
                    self.assertEqual(call(rows), expected)
                    self.assertEqual(OTHER, [(0, "a", 2), (3, "b", 1), (5, "a", 0)])

    def test_lists_of_objects(self):
        walk, sorter, meeting, desk = Walk(()), Sorter(0), Join(99), desk_of([], {"all": ()})
        for row in LOG:
            self.assertEqual(walk.take(row), [row])
            walk_told, sorter_told = walk.take(row), sorter.take(row)
            walk_told.clear()
            sorter_told.clear()
            meeting.take(0, row).append("more")
            desk.add(row)
            for told in [desk.rows(), desk.names(), desk.answer("all"), sorter.waits()]:
                told.append("more")
        self.assertEqual(desk.rows(), LOG)
        self.assertEqual(desk.answer("all"), LOG)
        self.assertEqual(desk.names(), ["all"])
        self.assertEqual((walk.end(), sorter.end(), meeting.end()), ([], [], 6))

    def test_lists_handed_in_are_not_kept(self):
        rows = list(LOG)
        logs, asks = [rows, OTHER], [ASK, ()]
        told = [merged(logs), by_keys_parted(rows), alike_asks(asks, rows), asked((), rows), from_to(rows, 0, 999)]
        kept = [merged([LOG, OTHER]), by_keys_parted(LOG), alike_asks([ASK, ()], LOG), list(LOG), list(LOG)]
        for handed in [rows, logs, asks]:
            handed.clear()
        self.assertEqual(told, kept)


class AnyThing(unittest.TestCase):
    def test_whatever_is_handed_in_is_taken_or_refused(self):
        things = ODD_THINGS + GREAT_THINGS + NO_NUMBERS + ["seven", (0, "a", 0), ASK, 5]
        for place, call in enumerate(OF_ANY_THING):
            refused = 0
            for number, thing in enumerate(things):
                with self.subTest(call=place, thing=number):
                    try:
                        call(thing)
                    except AskError as error:
                        refused += 1
                        self.assertIs(type(error).__bases__[0], AskError)
            self.assertGreater(refused, len(things) // 2)


class Together(unittest.TestCase):
    def test_one_log_by_all_ways(self):
        chance = random.Random(1)
        for turn in range(500):
            rows, ask = some_log(chance), some_ask(chance)
            answer = asked(ask, rows)
            self.assertTrue(is_log(answer))
            walk = Walk(ask)
            self.assertEqual(sum([walk.take(row) for row in rows], []) + walk.end(), answer)
            self.assertEqual(asked(simpler(ask), rows), answer)
            self.assertEqual(asked(read_ask(ask_text(ask)), read_log(log_text(rows))), answer)
            self.assertEqual(read_desk(desk_text(desk_of(rows, {"own": ask}))).answer("own"), answer)
            self.assertEqual(row_flow(ask, rows)[-1], len(answer))
            self.assertIs(same_answers(simpler(ask), ask, rows), True)
            if is_empty(ask):
                self.assertEqual(answer, [])

    def test_a_log_parted_and_put_together(self):
        chance = random.Random(2)
        for turn in range(500):
            rows = some_log(chance)
            parts = [part for key, part in by_keys_parted(rows)]
            self.assertEqual(sorted(merged(parts)), sorted(rows))
            place = chance.randint(0, 100)
            self.assertEqual(merged([from_to(rows, 0, place), from_to(rows, place, 999)]), rows)
            sorter = Sorter(99)
            mixed = chance.sample(rows, len(rows))
            self.assertEqual(sum([sorter.take(row) for row in mixed], []) + sorter.end(), in_order(mixed))
            self.assertEqual(sum(stretch[3] for stretch in stretches(rows, 5)), len(rows))
            self.assertEqual(as_rows(table_of(7, rows)), asked((("window", 7),), rows))


if __name__ == "__main__":
    unittest.main()
