"""Asks side by side over one log."""

from rowasks.asks import asked, refuse_what_is_no_ask
from rowasks.rows import refuse_what_is_no_log


def behind(one, other):
    refuse_what_is_no_ask(one)
    refuse_what_is_no_ask(other)
    both = one + other
    # Together they may have too many steps.
    refuse_what_is_no_ask(both)
    return both


def same_answers(one, other, rows):
    return len(alike_asks([one, other], rows)) == 1


def alike_asks(asks, rows):
    # All that may be refused goes ahead of the first answer: an ask that is none comes ahead of any row that is none.
    for ask in asks:
        refuse_what_is_no_ask(ask)
    refuse_what_is_no_log(rows)
    answers = []
    told = []
    for number, ask in enumerate(asks):
        answer = asked(ask, rows)
        if answer in answers:
            told[answers.index(answer)].append(number)
        else:
            answers.append(answer)
            told.append([number])
    return told


def needed_steps(ask, rows):
    answer = asked(ask, rows)
    return [number for number in range(len(ask)) if asked(ask[:number] + ask[number + 1:], rows) != answer]


def row_flow(ask, rows):
    # Its beginnings are asks even where it is none itself.
    refuse_what_is_no_ask(ask)
    return [len(asked(ask[:many], rows)) for many in range(len(ask) + 1)]
