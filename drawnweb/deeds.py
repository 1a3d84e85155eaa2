"""Deeds: ties cut, tied places drawn together, places dropped; and the lots that come of them."""

from drawnweb.errors import NoBack, NoDeed
from drawnweb.things import is_tuple_of, is_worded
from drawnweb.webs import are_some, is_tie, within


def is_deed(web, thing):
    """Whether the thing, which may be anything, is a deed of the web."""
    if not is_worded(thing):
        return False
    if thing[0] == "drop":
        # A place by itself is looked at as some, for a truth would be found among the places, too.
        return is_tuple_of(thing, 2) and are_some(web, thing[1:])
    return thing[0] in ("cut", "draw") and is_tie(web, thing[1:])


def deeds(web):
    """The rising tuple of all deeds of the web."""
    places, ties = web
    every = [("cut", a, b) for a, b in ties] + [("draw", a, b) for a, b in ties] + [("drop", a) for a in places]
    return tuple(sorted(every))


def done(web, deed):
    """The web behind the deed; refused with NoDeed, number 0, where it is none of the web."""
    return played(web, (deed,))


def played(web, row):
    """The web behind the row's deeds; refused with NoDeed, the number of the first that is none."""
    now = web
    for number, deed in enumerate(row):
        if not is_deed(now, deed):
            raise NoDeed(number)
        now = web_behind(now, deed)
    return now


def web_behind(web, deed):
    """The web behind what is a deed of it."""
    places, ties = web
    if deed[0] == "cut":
        return (places, tuple([tie for tie in ties if tie != deed[1:]]))
    gone = deed[-1]
    left = tuple([place for place in places if place != gone])
    if deed[0] == "drop":
        return within(web, left)
    return (left, ties_drawn(ties, deed[1], gone))


def ties_drawn(ties, a, b):
    """The ties when what else was tied to b is tied to a."""
    ends = [(a if one == b else one, a if other == b else other) for one, other in ties]
    return tuple(sorted({(min(pair), max(pair)) for pair in ends if pair[0] != pair[1]}))


def undone(earlier):
    """What was as it was ahead of the last deed, taken out of these; refused with NoBack where there is none."""
    if not earlier:
        raise NoBack("there is no deed to undo")
    return earlier.pop()


def lots_behind(web, row):
    """For each place of the web behind the row: it and the places drawn together to it; refused as played."""
    played(web, row)
    lots = {place: (place,) for place in web[0]}
    for deed in row:
        if deed[0] == "draw":
            lots[deed[1]] += lots[deed[2]]
        if deed[0] != "cut":
            del lots[deed[-1]]
    return tuple([(place, tuple(sorted(lots[place]))) for place in sorted(lots)])
