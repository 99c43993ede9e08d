"""What a value is: an INTEGER, a COUNT, an order."""

MOST_THINGS = 9


def is_integer(value):
    """Whether any value is an INTEGER."""
    return isinstance(value, int) and not isinstance(value, bool)


def is_count(value):
    """Whether any value is a COUNT."""
    return is_integer(value) and value >= 0


def is_order(value):
    """Whether any value is an order, a list or a tuple."""
    if not isinstance(value, (list, tuple)) or not 1 <= len(value) <= MOST_THINGS:
        return False
    if not all(is_integer(thing) for thing in value):
        return False
    return sorted(value) == list(range(1, len(value) + 1))
