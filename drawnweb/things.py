"""What a thing is, where anything may be handed in."""


def is_whole(thing):
    """Whether the thing is a whole number."""
    # Python counts True and False among its ints; here a truth is no number.
    return isinstance(thing, int) and not isinstance(thing, bool)


def is_tuple_of(thing, many):
    """Whether the thing is a tuple of so many."""
    return isinstance(thing, tuple) and len(thing) == many


def rises(items):
    """Whether each of these, which can be compared, is below the next."""
    return all([items[k] < items[k + 1] for k in range(len(items) - 1)])


def is_worded(thing):
    """Whether the thing is a tuple that begins with a text."""
    return isinstance(thing, tuple) and len(thing) > 0 and isinstance(thing[0], str)
