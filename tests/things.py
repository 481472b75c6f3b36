"""What several test files need: things that are refused, some asks, logs and texts, a plain telling of the steps."""

from rowasks.desks import Desk
from rowasks.errors import AskError

ANY_NUMBER_WORDS = ["over", "under", "plus", "times"]
COUNT_WORDS = ["first", "each", "window"]
BARE_WORDS = ["running", "change", "unlike"]

# Things that are neither a row, nor a step, nor an ask of one step or more.
ODD_THINGS = [
    None, True, False, 0, 1, -1, 99, "", "a", "ab", "key", "running", "0 a 0",
    [], [0, "a", 0], ["key", "a"], [("running",)], [[]], [[[[[]]]]],
    (None,), (True,), (0,), ("",), ("a",), ([],), ([[]],), ({},), (((((0,),),),),),
    (None, None, None), ("0", "a", "0"), ([0], ["a"], [0]), ((0,), ("a",), (0,)),
    ([], []), ([["key"]], "a"), (("key",), "a"), ((), ()), (None, "a"),
]

GREAT = 10 ** 5000

# The like of these with a whole number that Python refuses to write out; no subTest may name them.
GREAT_THINGS = [
    GREAT, -GREAT, (GREAT,), [GREAT], [[[[[GREAT]]]]], (((((GREAT,),),),),),
    (GREAT, "a", 1), (-GREAT, "a", 1), (1, "a", GREAT), (1, "a", -GREAT), (1, GREAT, 1), (1, "a", [GREAT]),
    (1, "a", 1, GREAT), (GREAT, GREAT, GREAT),
    (("plus", GREAT),), (("plus", -GREAT),), (("first", GREAT),), (("key", GREAT),), ((GREAT,),), ((GREAT, 1),),
    (("running", GREAT),), (("running",), ("over", GREAT)), ("plus", GREAT), [("plus", GREAT)],
]

NO_ASKS = [None, True, 0, "running", [], [("running",)], ("running",), ((),), (("over", 21),), (("first", 0),),
           (("key", "abc"),), (("plus", True),), (("running",),) * 6, (["running"],), (([],),)]
NO_ROWS = [None, True, 0, "", "0 a 0", [], (), [0, "a", 0], (0, "a"), (0, "a", 0, 0), (-1, "a", 0), (100, "a", 0),
           (0, "", 0), (0, "A", 0), (0, "abc", 0), (0, "a", 100), (0, "a", -100), (True, "a", 0), (0, "a", False),
           (0, ["a"], 0), ((0, "a", 0),), [[[[[]]]]]]

# Things that are neither a gap nor a moment; of the great ones again no subTest may speak.
NO_NUMBERS = [-1, -2, True, False, None, "", "0", "1", "a", [], [1], [[[[[1]]]]], (), (1,), (0, "a", 0),
              GREAT, -GREAT, [GREAT], (GREAT,)]


def each_step():
    steps = [("key", "a"), ("key", "b"), ("key", "zz")]
    steps += [(word, number) for word in ANY_NUMBER_WORDS for number in [-20, -3, -1, 0, 1, 2, 5, 20]]
    steps += [(word, number) for word in COUNT_WORDS for number in [1, 2, 3, 5, 19, 20]]
    return steps + [(word,) for word in BARE_WORDS]


def some_ask(chance):
    return tuple(chance.choice(each_step()) for turn in range(chance.randint(0, 5)))


def some_log(chance):
    greatest = chance.choice([5, 20, 99])
    size = chance.choice([3, 99])
    rows = [(chance.randint(0, greatest), chance.choice(["a", "b", "ab"]), chance.randint(-size, size))
            for turn in range(chance.randint(0, 12))]
    return sorted(rows, key=lambda row: row[0])


def plain_step(step, rows):
    word = step[0]
    n = step[1] if len(step) == 2 else None
    if word == "window":
        return plain_window(n, rows)
    made = []
    for place, (moment, key, number) in enumerate(rows):
        of_key = [row[2] for row in rows[:place] if row[1] == key]
        keeps = {
            "key": key == n,
            "over": n is not None and word == "over" and number > n,
            "under": n is not None and word == "under" and number < n,
            "first": word == "first" and place < n,
            "each": word == "each" and (place + 1) % n == 0,
            "change": len(of_key) > 0,
            "unlike": len(of_key) == 0 or of_key[-1] != number,
        }
        gives = {
            "plus": lambda: number + n,
            "times": lambda: number * n,
            "running": lambda: sum(of_key) + number,
            "change": lambda: number - of_key[-1],
        }
        if keeps.get(word, True):
            made.append((moment, key, gives[word]() if word in gives else number))
    return made


def plain_window(n, rows):
    made = []
    for last in range(n - 1, 1000, n):
        inside = [row for row in rows if last - n < row[0] <= last]
        for key in sorted({row[1] for row in inside}):
            made.append((last, key, sum(row[2] for row in inside if row[1] == key)))
    return made


def refusal(call, *handed):
    """The very class of the refusal that a call raises; None where it raises none."""
    try:
        call(*handed)
    except AskError as error:
        return type(error)
    return None


def texts_up_to(signs, longest):
    ended = [""]
    last = [""]
    for length in range(longest):
        last = [text + sign for text in last for sign in signs]
        ended.extend(last)
    return ended


def neighbours(text):
    signs = [chr(code) for code in range(32, 127)] + ["\n"]
    made = [text[:k] + text[k + 1:] for k in range(len(text))]
    made += [text[:k] + sign + text[k:] for k in range(len(text) + 1) for sign in signs]
    made += [text[:k] + sign + text[k + 1:] for k in range(len(text)) for sign in signs]
    return made


def desk_of(rows, asks):
    desk = Desk()
    for row in rows:
        desk.add(row)
    for name in asks:
        desk.hang(name, asks[name])
    return desk
