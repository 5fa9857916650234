"""What boards, cells, steps and the like are built of."""

from seeall.errors import NoNumber


def is_whole(thing, low, high):
    """Tell whether thing is a whole number from low to high."""
    # Python counts truths among its integers; the document does not.
    return isinstance(thing, int) and not isinstance(thing, bool) and low <= thing <= high


def check_whole(number, low, high):
    """Refuse with NoNumber what is no whole number from low to high."""
    if not is_whole(number, low, high):
        raise NoNumber(f"the number is a whole one from {low} to {high}")


def is_couple(thing):
    """Tell whether thing is a tuple of two parts, whatever these are."""
    return isinstance(thing, tuple) and len(thing) == 2


def is_whole_couple(thing, low, high):
    """Tell whether thing is a tuple of two whole numbers, each from low to high."""
    return is_couple(thing) and is_whole(thing[0], low, high) and is_whole(thing[1], low, high)


def is_rising(things):
    """Tell whether each of things, which can be compared, is greater than the one ahead."""
    return all([ahead < behind for ahead, behind in zip(things, things[1:])])
