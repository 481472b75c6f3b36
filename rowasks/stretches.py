"""Stretches: rows of one key that come close behind one another."""

from rowasks.asks import of_key
from rowasks.rows import keys_of, refuse_number_beyond, refuse_what_is_no_log

GREATEST_GAP = 99


def stretches(rows, gap):
    refuse_what_is_no_log(rows)
    refuse_number_beyond(gap, GREATEST_GAP)
    told = []
    for key in keys_of(rows):
        told.extend(stretches_of_one_key(of_key(rows, key), gap))
    return sorted(told, key=lambda stretch: (stretch[1], stretch[0]))


def stretches_of_one_key(rows, gap):
    told = []
    for moment, key, number in rows:
        # Moments only rise, so a row can come to the last stretch alone.
        if len(told) > 0 and moment - told[-1][2] <= gap:
            told[-1] = longer(told[-1], moment, number)
        else:
            told.append((key, moment, moment, 1, number))
    return told


def longer(stretch, moment, number):
    return (stretch[0], stretch[1], moment, stretch[3] + 1, stretch[4] + number)


def going_on(rows, gap, moment):
    return sorted([stretch[0] for stretch in stretches(rows, gap) if stretch[1] <= moment <= stretch[2] + gap])


def longest(rows, gap):
    # max tells the first of several that are as long.
    return max(stretches(rows, gap), key=lambda stretch: stretch[2] - stretch[1], default=None)


def pauses(rows, key):
    refuse_what_is_no_log(rows)
    moments = [row[0] for row in of_key(rows, key)]
    return [later - earlier for earlier, later in zip(moments, moments[1:])]
