"""Things that are neither a row, nor a step, nor an ask of one step or more."""

ODD_THINGS = [
    None, True, False, 0, 1, -1, 99, "", "a", "ab", "key", "running", "0 a 0",
    [], [0, "a", 0], ["key", "a"], [("running",)], [[]], [[[[[]]]]],
    (None,), (True,), (0,), ("",), ("a",), ([],), ([[]],), ({},), (((((0,),),),),),
    (None, None, None), ("0", "a", "0"), ([0], ["a"], [0]), ((0,), ("a",), (0,)),
    ([], []), ([["key"]], "a"), (("key",), "a"), ((), ()), (None, "a"),
]
