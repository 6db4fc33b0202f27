"""Values of any kind, as DOC.md means "any value", for the tests."""


def nested(depth):
    """A value that is nested so deep, by tuples, lists and dicts in turn."""
    value = None
    for level in range(depth):
        value = ((value,), [value], {"in": value})[level % 3]
    return value


INTEGERS = [0, 1, -1, 2, 10 ** 12, 10 ** 40 - 1, -(10 ** 40 - 1)]

NOT_INTEGERS = [
    None, True, False, "", "1", "none", "a\nb", "~" * 1000,
    (), (1,), (1, 0), [], [1, 0], {}, {1: 0}, {(1, 0): [0]}, nested(20),
]

ANY_VALUES = INTEGERS + NOT_INTEGERS + [tuple(range(2000)), list(range(2000))]

# None of these is a tuple, whatever stands in it.
NOT_TUPLES = INTEGERS + [
    None, True, False, "", "2:0", "none", [], [(2, 0)], [2, 0], {}, {(2, 0): 1}, {0: (2, 0)},
]
