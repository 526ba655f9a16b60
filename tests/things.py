"""Things of all kinds that the tests hand in."""


def deep(kind, inner, depth=30):
    thing = inner
    for turn in range(depth):
        thing = kind([thing])
    return thing


def no_texts():
    return [
        0, 1, -1, 7, 10 ** 30, True, False, None,
        [], (), ["ann"], ("ann",), [["ann"]], (("ann",),), ["a", "n"], ("a", "n"), [1, None, True], (None, "ann"),
        deep(list, "ann"), deep(tuple, "ann"), deep(list, deep(tuple, 1, 15), 15),
    ]


def no_names():
    return ["", "annabel", "abcdefghijkl", "Ann", "aNn", "anN", "ANN", "1ann", "a1n", "ann1", "7", " ann", "a nn",
            "ann ", " ", "@ann", "a-n", "ann,", "_", "an_n", "~", "`a", "a{", "ann\n"] + no_texts()
