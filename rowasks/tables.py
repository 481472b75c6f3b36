"""Tables of windows and keys: how many numbers, their sum, the least and the greatest."""

from rowasks.errors import Unlike
from rowasks.rows import refuse_what_is_no_row


def rising_lines(lines):
    # Lines in any order, of which several may be of one window and key.
    parts = {}
    for line in lines:
        place = line[:2]
        parts[place] = numbers_together(parts[place], line[2:]) if place in parts else line[2:]
    return tuple([place + parts[place] for place in sorted(parts)])


def numbers_together(one, other):
    return (one[0] + other[0], one[1] + other[1], min(one[2], other[2]), max(one[3], other[3]))


def table_of(size, rows):
    refuse_what_is_no_row(rows)
    return (size, rising_lines([(moment // size, key, 1, number, number, number) for moment, key, number in rows]))


def led_together(one, other):
    if one[0] != other[0]:
        raise Unlike("the windows of the tables are not of one size")
    return (one[0], rising_lines(one[1] + other[1]))


def coarser(table, by):
    return (table[0] * by, rising_lines([(line[0] // by,) + line[1:] for line in table[1]]))


def by_key(table):
    # With all lines in one window, those of a key come together.
    return [line[1:] for line in rising_lines([(0,) + line[1:] for line in table[1]])]


def greatest(table, many):
    windows = {}
    for line in table[1]:
        windows.setdefault(line[0], []).append(line)
    return [(number, greatest_keys(windows[number], many)) for number in sorted(windows)]


def greatest_keys(lines, many):
    ranked = sorted(lines, key=lambda line: (-line[3], line[1]))
    # A slice would count a number below 0 from the end.
    return [line[1] for line in ranked[:max(many, 0)]]


def as_rows(table):
    return [((line[0] + 1) * table[0] - 1, line[1], line[3]) for line in table[1]]
