"""What stands: of each key the number of its last row up to a moment."""

from rowasks.asks import of_key
from rowasks.errors import NoNumber
from rowasks.rows import keys_of, refuse_number_beyond, refuse_what_are_no_two_logs, refuse_what_is_no_log

LATEST_MOMENT = 999


def refuse_what_is_no_moment(thing):
    refuse_number_beyond(thing, LATEST_MOMENT)


def numbers_standing(rows, moment):
    # Rows come by their moments, so the last one of a key is put in the stead of those ahead.
    numbers = {}
    for row in rows:
        if row[0] <= moment:
            numbers[row[1]] = row[2]
    return numbers


def at_moment(rows, moment):
    refuse_what_is_no_log(rows)
    refuse_what_is_no_moment(moment)
    return sorted(numbers_standing(rows, moment).items())


def history(rows, key):
    refuse_what_is_no_log(rows)
    numbers = {}
    for row in of_key(rows, key):
        numbers[row[0]] = row[2]
    return sorted(numbers.items())


def weighed(rows, end):
    refuse_what_is_no_log(rows)
    refuse_what_is_no_moment(end)
    if any([row[0] > end for row in rows]):
        raise NoNumber("the end is earlier than some row's moment")
    return [(key, weight(history(rows, key), end)) for key in keys_of(rows)]


def weight(numbers, end):
    ends = [later[0] for later in numbers[1:]] + [end]
    return sum([stands[1] * (until - stands[0]) for stands, until in zip(numbers, ends)])


def beside(one, other):
    refuse_what_are_no_two_logs(one, other)
    return [row + (numbers_standing(other, row[0]).get(row[1]),) for row in one]


def unlike_at(one, other, moment):
    refuse_what_are_no_two_logs(one, other)
    refuse_what_is_no_moment(moment)
    here = numbers_standing(one, moment)
    there = numbers_standing(other, moment)
    return [key for key in sorted(set(here) | set(there)) if here.get(key) != there.get(key)]
