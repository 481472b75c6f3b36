"""Logs put together, parted and moved."""

from rowasks.asks import of_key
from rowasks.errors import NoNumber, NoRow
from rowasks.rows import in_order, is_key, is_row, is_whole, keys_of, refuse_what_is_no_log
from rowasks.standing import refuse_what_is_no_moment


def merged(logs):
    rows = []
    for log in logs:
        refuse_what_is_no_log(log)
        rows.extend(log)
    return in_order(rows)


def by_keys_parted(rows):
    refuse_what_is_no_log(rows)
    return [(key, of_key(rows, key)) for key in keys_of(rows)]


def from_to(rows, begin, end):
    refuse_what_is_no_log(rows)
    refuse_what_is_no_moment(begin)
    refuse_what_is_no_moment(end)
    return [row for row in rows if begin <= row[0] < end]


def shifted(rows, by):
    refuse_what_is_no_log(rows)
    if not is_whole(by):
        raise NoNumber("rows are moved by a whole number")
    moved = [(moment + by, key, number) for moment, key, number in rows]
    if not all([is_row(row) for row in moved]):
        raise NoNumber("no row can have such moments")
    return moved


def keys_changed(rows, old, new):
    refuse_what_is_no_log(rows)
    if not is_key(old) or not is_key(new):
        raise NoRow("a key is one or two letters a to z")
    return [(moment, new if key == old else key, number) for moment, key, number in rows]
