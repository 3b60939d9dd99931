"""What several tests need: ways to catch errors, and things to try."""

from itertools import product

# None of these is a whole number, a lot, a stand or a number of stands.
NO_WHOLES = (True, False, None, "1", "", -1, 10 ** 30, 1.0, [1], (1,), {}, b"1")

# None of these is a sequence.
NO_SEQUENCES = (None, 0, 7, True, "", "ab", b"ab", {}, {1: 2}, {1}, range(3), iter(()))


def error_of(call, *given):
    """The class and the attributes of the error that a call raises, or None."""
    try:
        call(*given)
    except Exception as error:
        return type(error), tuple(vars(error).values())
    return None


def all_rows(stands):
    """All rows of so many stands."""
    return list(product(range(1 << stands), repeat=stands))


def some_rows(stands):
    """A few rows of so many stands, of many kinds."""
    every = (1 << stands) - 1
    return [
        tuple([(7 * (s + 1) * (s + k) + 3 * k) & every for s in range(stands)])
        for k in range(1, 8)
    ] + [
        (0,) * stands,
        (every,) * stands,
        tuple([1 << s for s in range(stands)]),
        tuple([1 << (s + 1) % stands for s in range(stands)]),
        tuple([1 << min(s + 1, stands - 1) for s in range(stands)]),
    ]
