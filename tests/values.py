"""Values that the tests hand in: wrong ones for each sort of parameter."""

NO_INTEGERS = [True, False, None, "", "0", "1", "a", [], [0], [1], (), (0,), (1,), [[]], [0] * 8, (0,) * 8]
NO_WORDS = NO_INTEGERS + [-1, 65536, -65536, 10 ** 12 - 1, 1 - 10 ** 12]


def no_integers_of(least, most):
    """Every sort of wrong value for an integer from least to most."""
    return NO_INTEGERS + [least - 1, most + 1, 10 ** 12 - 1, 1 - 10 ** 12] + ([-least] if least > 0 else [-1])


def no_words_of(least, most):
    """Every sort of wrong value for a list of words whose length is from least to most."""
    wrong = [True, False, 0, 1, 65535, -1, "", "0" * max(least, 1), (), (0,) * least, (1,) * most]
    wrong.append([0] * (most + 1))
    if least > 0:
        wrong.extend([None, [], [0] * (least - 1)])
    for part in NO_WORDS:
        wrong.append([part] + [0] * (max(least, 1) - 1))
        wrong.append([0] * (most - 1) + [part])
    return wrong


def wrong_calls(right, wrong):
    """Argument dicts with every mix of one wrong value or several, each with the name that is due.

    right: a dict of right arguments in the order of the signature.
    wrong: a dict of the wrong values of the parameters that are asked.
    """
    asked = [name for name in right if name in wrong]
    for at, name in enumerate(asked):
        for value in wrong[name]:
            yield name, {**right, name: value}
            for later in asked[at + 1:]:
                yield name, {**right, name: value, later: wrong[later][-1]}
    if asked:
        yield asked[0], {**right, **{name: wrong[name][0] for name in asked}}


def is_plain(value):
    """Tells whether a value is a plain value of [2], but for its size and depth."""
    if isinstance(value, (list, tuple)):
        return all(is_plain(part) for part in value)
    if isinstance(value, str):
        return all(" " <= sign <= "~" and sign != "%" for sign in value)
    return value is None or isinstance(value, int)


def spoil(value):
    """Empties every list of a plain value, at any depth."""
    for part in list(value):
        if isinstance(part, (list, tuple)):
            spoil(part)
    if isinstance(value, list):
        value.clear()


# Plain values of every kind, for judges: none of them is a certificate, but for the empty list.
ANYTHING = [
    True, False, None, 0, 1, -1, 8, 10 ** 12 - 1, "", "a", "x" * 4000, (), (0,), [0], [1], [True], [False], [None],
    [[]], [()], ([],), [""], ["0"], [[[[[[[[]]]]]]]], [0] * 2999, ["x"] * 2999, [(0, 0)] * 900, [[0]] * 1000,
    (0, 0, 0, 0, 0), [(0, 0, 0, 0, 0)], [(0, None, None, None)], [(1, [1])], [[0, 0, 0, 0]], [-1], [10 ** 12 - 1],
]
