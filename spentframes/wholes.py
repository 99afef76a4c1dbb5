"""What counts as a whole number and as a sequence."""


def is_whole(thing, low=None, high=None):
    """Tell whether a thing is a whole number within the bounds; a bound that is None does not count."""
    if isinstance(thing, bool) or not isinstance(thing, int):
        return False
    if low is not None and thing < low:
        return False
    return high is None or thing <= high


def is_sequence(thing):
    """Tell whether a thing is a list or a tuple."""
    return isinstance(thing, (list, tuple))


def is_couple(thing, high):
    """Tell whether a thing is a sequence of two whole numbers from 0 to high."""
    return is_sequence(thing) and len(thing) == 2 and is_whole(thing[0], 0, high) and is_whole(thing[1], 0, high)


def as_tuples(thing):
    """Return a thing with tuples in the place of lists, within one another too."""
    if not is_sequence(thing):
        return thing
    return tuple([as_tuples(part) for part in thing])
