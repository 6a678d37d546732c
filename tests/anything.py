"""Things such as point [2] means by "of anything"."""

DEEP_LIST = [[[[[[[["clay"]]]]]]]]
DEEP_TUPLE = (((((((("clay", 1),),),),),),),)

THINGS = (
    None, True, False,
    0, 1, 2, -1, -3, 60, 61, 10 ** 40 - 1, 1 - 10 ** 40,
    "", " ", "a", "z", "clay", "abcdefgh", "abcdefghi", "Clay", "CLAY", "clay1", "1", "clay ", " clay",
    "cl-ay", "cl_ay", "`", "{", "~", "a" * 2000, "clay 3, flint 1", "clay:3+flint:1",
    [], [1], ["clay", 1], [("clay", 1)], [["clay", 1]], [None], DEEP_LIST,
    (), (1,), (None,), ("clay",), ("clay", 1), ("clay", 1, 1), (("clay", 1),), ((),), ([],), DEEP_TUPLE,
    ("clay", [1]), (["clay"], 1), (("clay",), 1), ("clay", (1,)), ("clay", "1"), ("clay", True), (True, 1),
)
