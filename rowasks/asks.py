"""Asks: tuples of steps, each of which makes rows of rows."""

from rowasks.errors import NoAsk
from rowasks.rows import is_key, is_whole_within, refuse_what_is_no_log

MOST_STEPS = 5
GREATEST_STEP_NUMBER = 20


def of_key(rows, key):
    return [row for row in rows if row[1] == key]


def over(rows, bound):
    return [row for row in rows if row[2] > bound]


def under(rows, bound):
    return [row for row in rows if row[2] < bound]


def plus(rows, more):
    return [(moment, key, number + more) for moment, key, number in rows]


def times(rows, factor):
    return [(moment, key, number * factor) for moment, key, number in rows]


# What a step must know of rows that came to it earlier stands in a dict that it is handed and changes: so the same
# step makes its rows of a whole log at once or of one row after the other.


def first(rows, many, kept):
    came = kept.get("came", 0)
    kept["came"] = came + len(rows)
    return rows[:max(many - came, 0)]


def each(rows, many, kept):
    came = kept.get("came", 0)
    kept["came"] = (came + len(rows)) % many
    return rows[many - 1 - came::many]


def window(rows, size, sums):
    # The sums are those of one window alone, by (window, key); rows come by their moments.
    made = []
    for moment, key, number in rows:
        place = (moment // size, key)
        if len(sums) > 0 and max(sums)[0] < place[0]:
            made.extend(window_rows(size, sums))
            sums.clear()
        sums[place] = sums.get(place, 0) + number
    return made


def window_rows(size, sums):
    return [((place[0] + 1) * size - 1, place[1], sums[place]) for place in sorted(sums)]


def running(rows, sums):
    made = []
    for moment, key, number in rows:
        sums[key] = sums.get(key, 0) + number
        made.append((moment, key, sums[key]))
    return made


def change(rows, ahead):
    made = []
    for moment, key, number in rows:
        if key in ahead:
            made.append((moment, key, number - ahead[key]))
        ahead[key] = number
    return made


def unlike(rows, ahead):
    made = []
    for moment, key, number in rows:
        if key not in ahead or ahead[key] != number:
            made.append((moment, key, number))
        ahead[key] = number
    return made


# The steps by what stands behind their word: any small number, a number from 1 on, nothing.
NUMBER_STEPS = {"over": over, "under": under, "plus": plus, "times": times}
COUNT_STEPS = {"first": first, "each": each, "window": window}
BARE_STEPS = {"running": running, "change": change, "unlike": unlike}


def is_step(thing):
    # The word must be a text ahead of any look into a dict: a list can't be looked up there.
    if not isinstance(thing, tuple) or len(thing) == 0 or not isinstance(thing[0], str):
        return False
    word = thing[0]
    if word in BARE_STEPS:
        return len(thing) == 1
    if len(thing) != 2:
        return False
    if word == "key":
        return is_key(thing[1])
    if word in NUMBER_STEPS:
        return is_whole_within(thing[1], -GREATEST_STEP_NUMBER, GREATEST_STEP_NUMBER)
    return word in COUNT_STEPS and is_whole_within(thing[1], 1, GREATEST_STEP_NUMBER)


def is_ask(thing):
    if not isinstance(thing, tuple) or len(thing) > MOST_STEPS:
        return False
    return all([is_step(step) for step in thing])


def refuse_what_is_no_ask(ask):
    # The words leave out the thing itself: Python can't write out every whole number that may stand in it.
    if not is_ask(ask):
        raise NoAsk("an ask is a tuple of at most five steps")


def behind_step(step, rows, kept):
    word = step[0]
    if word == "key":
        return of_key(rows, step[1])
    if word in NUMBER_STEPS:
        make = NUMBER_STEPS[word]
        return make(rows, step[1])
    if word in COUNT_STEPS:
        make = COUNT_STEPS[word]
        return make(rows, step[1], kept)
    make = BARE_STEPS[word]
    return make(rows, kept)


def behind_last_rows(step, rows, kept):
    # Behind these no row comes to the step any more, so its last window is told too.
    made = behind_step(step, rows, kept)
    if step[0] == "window":
        return made + window_rows(step[1], kept)
    return made


def asked(ask, rows):
    refuse_what_is_no_ask(ask)
    refuse_what_is_no_log(rows)
    # A copy, so that an ask without steps doesn't hand back the very list it got.
    told = list(rows)
    for step in ask:
        told = behind_last_rows(step, told, {})
    return told
