"""Desks: a log with asks by names, whose steps go back and forth, and the texts of desks."""

from rowasks.asks import asked, refuse_what_is_no_ask
from rowasks.errors import Full, NoBack, NoName, NoText
from rowasks.rows import is_log, is_word, log_text, read_log, refuse_what_is_no_log
from rowasks.texts import ask_text, read_ask

MOST_ROWS = 12
MOST_NAMES = 6
LONGEST_NAME = 6
BEHIND_LOG = "--"


def is_name(thing):
    return is_word(thing, LONGEST_NAME)


class Desk:
    def __init__(self):
        # Neither of these two is changed once it is made: each step puts new ones in their stead, so that what was
        # ahead of a step, or is with a twin, stays as it is.
        self.log = []
        self.asks = {}
        # Tuples (word of the step, log, asks): what was ahead of each step that was done, and what was behind each
        # that was taken back, the nearest one last.
        self.past = []
        self.coming = []

    def add(self, row):
        log = self.log + [row]
        refuse_what_is_no_log(log)
        if len(log) > MOST_ROWS:
            raise Full("a desk has at most twelve rows")
        self.do_step("add", log, self.asks)

    def hang(self, name, ask):
        refuse_what_is_no_ask(ask)
        if not is_name(name):
            raise NoName("a name is a text of one to six letters a to z")
        had = name in self.asks
        if not had and len(self.asks) >= MOST_NAMES:
            raise Full("a desk has asks by at most six names")
        asks = dict(self.asks)
        asks[name] = ask
        self.do_step("hang", self.log, asks)
        return had

    def lose(self, name):
        ask = self.ask_of(name)
        asks = dict(self.asks)
        asks.pop(name)
        self.do_step("lose", self.log, asks)
        return ask

    def ask_of(self, name):
        # Not every thing can be looked up in a dict, but each name can.
        if not is_name(name) or name not in self.asks:
            raise NoName("no ask has this name")
        return self.asks[name]

    def answer(self, name):
        return asked(self.ask_of(name), self.log)

    def names(self):
        return sorted(self.asks)

    def rows(self):
        return list(self.log)

    def do_step(self, word, log, asks):
        self.past.append((word, self.log, self.asks))
        self.coming.clear()
        self.log = log
        self.asks = asks

    def back(self):
        return self.step_between(self.past, self.coming)

    def forth(self):
        return self.step_between(self.coming, self.past)

    def step_between(self, left, entered):
        if len(left) == 0:
            raise NoBack("there is no such step")
        step = left.pop()
        entered.append((step[0], self.log, self.asks))
        self.log = step[1]
        self.asks = step[2]
        return step[0]

    def counts(self):
        return (len(self.past), len(self.coming))

    def twin(self):
        other = Desk()
        other.log = self.log
        other.asks = self.asks
        other.past = list(self.past)
        other.coming = list(self.coming)
        return other


def desk_text(desk):
    return log_text(desk.rows()) + f"{BEHIND_LOG}\n" + "".join([name_line(desk, name) for name in desk.names()])


def name_line(desk, name):
    text = ask_text(desk.ask_of(name))
    return f"{name}: {text}\n"


def read_desk(text):
    # Any thing may be handed in. The words leave out what is no text: Python can't write out every whole number.
    if not isinstance(text, str):
        raise NoText("the writing of a desk is a text")
    lines = text.split("\n")
    # Each line is ended by a line feed, so nothing may stand behind the last one.
    if BEHIND_LOG not in lines or lines[-1] != "":
        raise NoText(f"not the writing of a desk: {text!r}")
    place = lines.index(BEHIND_LOG)
    log = read_log("".join([f"{line}\n" for line in lines[:place]]))
    named = [read_name_line(line) for line in lines[place + 1:-1]]
    names = [name for name, ask in named]
    # Names that rise are each there once.
    if not is_log(log) or len(log) > MOST_ROWS or len(names) > MOST_NAMES or names != sorted(set(names)):
        raise NoText(f"not the writing of a desk: {text!r}")
    desk = Desk()
    desk.log = log
    desk.asks = dict(named)
    return desk


def read_name_line(line):
    parts = line.partition(": ")
    if not is_name(parts[0]) or parts[1] == "":
        raise NoText(f"not the writing of a name and an ask: {line!r}")
    return (parts[0], read_ask(parts[2]))
