"""Rows (moment, key, number), logs of them, and the texts of logs."""

from rowasks.errors import Ended, NoNumber, NoRow, NoText, TooLate

GREATEST_MOMENT = 99
GREATEST_NUMBER = 99
LONGEST_KEY = 2


def is_whole(thing):
    # Python counts True and False among the ints; here they are no numbers.
    return isinstance(thing, int) and not isinstance(thing, bool)


def is_whole_within(thing, least, greatest):
    return is_whole(thing) and least <= thing <= greatest


def is_word(thing, longest):
    if not isinstance(thing, str) or not 1 <= len(thing) <= longest:
        return False
    # islower would let in letters from beyond a to z.
    return all(["a" <= sign <= "z" for sign in thing])


def is_key(thing):
    return is_word(thing, LONGEST_KEY)


def is_row(thing):
    if not isinstance(thing, tuple) or len(thing) != 3:
        return False
    if not is_whole_within(thing[0], 0, GREATEST_MOMENT) or not is_key(thing[1]):
        return False
    return is_whole_within(thing[2], -GREATEST_NUMBER, GREATEST_NUMBER)


def is_log(rows):
    # Only the order is asked here: rows that answers tell may go beyond is_row.
    return all([ahead[0] <= row[0] for ahead, row in zip(rows, rows[1:])])


def in_order(rows):
    # sorted leaves rows of one moment as they stand, where the moment alone is its key.
    return sorted(rows, key=lambda row: row[0])


def keys_of(rows):
    return sorted(set([row[1] for row in rows]))


def refuse_what_is_no_row(rows):
    # The words leave out the thing itself: Python can't write out every whole number that may stand in it.
    if not all([is_row(row) for row in rows]):
        raise NoRow("a row is a tuple of a moment, a key and a number")


def refuse_out_of_order(rows):
    if not is_log(rows):
        raise TooLate("a row stands behind one of a greater moment")


def refuse_what_is_no_log(rows):
    refuse_what_is_no_row(rows)
    refuse_out_of_order(rows)


def refuse_what_are_no_two_logs(one, other):
    # A thing that is no row, in either, comes ahead of any row out of its order.
    refuse_what_is_no_row(one)
    refuse_what_is_no_row(other)
    refuse_out_of_order(one)
    refuse_out_of_order(other)


def refuse_number_beyond(thing, greatest):
    if not is_whole_within(thing, 0, greatest):
        raise NoNumber(f"not a whole number from 0 to {greatest}")


def refuse_when_ended(ended):
    if ended:
        raise Ended("no row comes any more")


def refuse_to_take(row, ended, earliest):
    # What takes row by row refuses in this order; earliest is the least moment that a row may still have.
    refuse_when_ended(ended)
    refuse_what_is_no_row([row])
    if row[0] < earliest:
        raise TooLate("the row's moment is too early for what came ahead of it")


def log_text(rows):
    return "".join([f"{moment} {key} {number}\n" for moment, key, number in rows])


def read_log(text):
    lines = text.split("\n")
    # Each line is ended by a line feed, so nothing may stand behind the last one.
    if lines[-1] != "":
        raise NoText(f"no line feed at the end: {text!r}")
    return [read_row(line) for line in lines[:-1]]


def read_row(line):
    parts = line.split(" ")
    if len(parts) != 3:
        raise NoText(f"not three parts: {line!r}")
    row = (read_number(parts[0]), parts[1], read_number(parts[2]))
    if not is_row(row):
        raise NoText(f"not the writing of a row: {line!r}")
    return row


def read_number(text):
    # None of a text that is not the writing of a whole number.
    try:
        number = int(text)
    except ValueError:
        return None
    # int takes blanks, signs, leading zeros and underscores that no number is written with.
    return number if str(number) == text else None
