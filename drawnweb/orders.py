"""Orders of a web's places, their widths and their spreads."""

from drawnweb.things import is_whole
from drawnweb.webs import nears, steps_from


def is_order(web, thing):
    """Whether the thing, which may be anything, is an order of the web."""
    # Only whole numbers can be sorted here without another look.
    return isinstance(thing, tuple) and all([is_whole(place) for place in thing]) and tuple(sorted(thing)) == web[0]


def width_at(ties_of, some, place):
    """How many places outside of some are come to from this one of some, through some (ties_of as nears tells)."""
    return len({other for member in steps_from(ties_of, some, place) for other in ties_of[member] if other not in some})


def spread_at(ties_of, some):
    """How many of some have a tie to a place outside (ties_of as nears tells)."""
    return len([place for place in some if any([other not in some for other in ties_of[place]])])


def widths(web, order):
    """For each place of the order how many behind it are come to from it through places ahead of it alone."""
    ties_of = nears(web)
    return tuple([width_at(ties_of, order[:at + 1], place) for at, place in enumerate(order)])


def spreads(web, order):
    """For each place of the order how many of the places up to it have a tie to one behind it."""
    ties_of = nears(web)
    return tuple([spread_at(ties_of, order[:at + 1]) for at in range(len(order))])


def width(web, order):
    """The greatest of the order's widths, 0 of none."""
    return max(widths(web, order), default=0)


def spread(web, order):
    """The greatest of the order's spreads, 0 of none."""
    return max(spreads(web, order), default=0)
