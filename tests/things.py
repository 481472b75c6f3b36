"""Things that are neither a row, nor a step, nor an ask of one step or more."""

ODD_THINGS = [
    None, True, False, 0, 1, -1, 99, "", "a", "ab", "key", "running", "0 a 0",
    [], [0, "a", 0], ["key", "a"], [("running",)], [[]], [[[[[]]]]],
    (None,), (True,), (0,), ("",), ("a",), ([],), ([[]],), ({},), (((((0,),),),),),
    (None, None, None), ("0", "a", "0"), ([0], ["a"], [0]), ((0,), ("a",), (0,)),
    ([], []), ([["key"]], "a"), (("key",), "a"), ((), ()), (None, "a"),
]

GREAT = 10 ** 5000

# The like of these with a whole number that Python refuses to write out; no subTest may name them.
GREAT_THINGS = [
    GREAT, -GREAT, (GREAT,), [GREAT], [[[[[GREAT]]]]], (((((GREAT,),),),),),
    (GREAT, "a", 1), (-GREAT, "a", 1), (1, "a", GREAT), (1, "a", -GREAT), (1, GREAT, 1), (1, "a", [GREAT]),
    (1, "a", 1, GREAT), (GREAT, GREAT, GREAT),
    (("plus", GREAT),), (("plus", -GREAT),), (("first", GREAT),), (("key", GREAT),), ((GREAT,),), ((GREAT, 1),),
    (("running", GREAT),), (("running",), ("over", GREAT)), ("plus", GREAT), [("plus", GREAT)],
]
