"""Simpler asks: fewer steps, in a settled turn, that make the same of each log."""

from rowasks.asks import is_step, refuse_what_is_no_ask

IDLE_STEPS = (("plus", 0), ("times", 1), ("each", 1))

# Behind these a key may as well stand ahead: they look at each row alone, or at the rows of one key alone.
WORDS_THAT_KEYS_PASS = ("over", "under", "plus", "times", "running", "change", "unlike")


def greater_number(one, other):
    return max(one, other)


def lesser_number(one, other):
    return min(one, other)


def numbers_added(one, other):
    return one + other


def numbers_multiplied(one, other):
    return one * other


# By its word, the number with which one step makes what two of that word make.
NUMBERS_OF_BOTH = {
    "over": greater_number, "under": lesser_number, "first": lesser_number,
    "plus": numbers_added, "times": numbers_multiplied, "each": numbers_multiplied,
}


def both_in_one(ahead, step):
    # The one step that makes what both make; None where there is none.
    word = step[0]
    if ahead == step and word in ("key", "unlike"):
        return step
    if ahead[0] != word or word not in NUMBERS_OF_BOTH:
        return None
    number_of_both = NUMBERS_OF_BOTH[word]
    both = (word, number_of_both(ahead[1], step[1]))
    # Two small numbers may together be too great for a step.
    return both if is_step(both) else None


def with_step(steps, step):
    # The steps are simple already; a step that goes ahead or into another one meets new neighbours there.
    if step in IDLE_STEPS:
        return steps
    if len(steps) == 0:
        return (step,)
    ahead = steps[-1]
    if step[0] == "key" and ahead[0] in WORDS_THAT_KEYS_PASS:
        return with_step(with_step(steps[:-1], step), ahead)
    both = both_in_one(ahead, step)
    if both is not None:
        return with_step(steps[:-1], both)
    return steps + (step,)


def simpler(ask):
    refuse_what_is_no_ask(ask)
    steps = ()
    for step in ask:
        steps = with_step(steps, step)
    return steps


def keep_nothing(ahead, step):
    if ahead[0] == "key" and step[0] == "key":
        return ahead[1] != step[1]
    if ahead[0] == "over" and step[0] == "under":
        return step[1] <= ahead[1] + 1
    if ahead[0] == "under" and step[0] == "over":
        return ahead[1] <= step[1] + 1
    return False


def is_empty(ask):
    refuse_what_is_no_ask(ask)
    return any([keep_nothing(ahead, step) for ahead, step in zip(ask, ask[1:])])
