"""What counts as a sequence and what as a whole number."""


def is_sequence(thing):
    """Whether a thing of any kind is a list or a tuple."""
    return isinstance(thing, (list, tuple))


def is_whole(thing, low=None, high=None):
    """Whether a thing of any kind is a whole number from low to high; None is no limit."""
    # True and False are ints to Python, but no whole numbers.
    if isinstance(thing, bool) or not isinstance(thing, int):
        return False
    if low is not None and thing < low:
        return False
    return high is None or thing <= high
