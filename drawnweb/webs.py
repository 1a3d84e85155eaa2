"""Webs: places with ties between them, and what hangs together in them."""

from drawnweb.things import is_tuple_of, is_whole, rises

GREATEST_PLACE = 99


def is_web(thing):
    """Whether the thing, which may be anything, is a web."""
    if not is_tuple_of(thing, 2):
        return False
    places, ties = thing
    return are_places(places) and are_ties(places, ties)


def are_places(thing):
    """Whether the thing is a rising tuple of whole numbers that places may have."""
    if not isinstance(thing, tuple):
        return False
    return all([is_whole(place) and 0 <= place <= GREATEST_PLACE for place in thing]) and rises(thing)


def are_ties(places, thing):
    """Whether the thing is a rising tuple of pairs of these places."""
    if not isinstance(thing, tuple):
        return False
    return all([is_pair(places, tie) for tie in thing]) and rises(thing)


def is_pair(places, thing):
    """Whether the thing is a pair of these places, the first below the second."""
    if not is_tuple_of(thing, 2):
        return False
    a, b = thing
    # The kinds come first: nothing else can be compared with a place.
    return is_whole(a) and is_whole(b) and a < b and a in places and b in places


def are_some(web, thing):
    """Whether the thing, which may be anything, is a rising tuple of the web's places."""
    return are_places(thing) and all([place in web[0] for place in thing])


def is_tie(web, thing):
    """Whether the thing, which may be anything, is a tie of the web."""
    return is_pair(web[0], thing) and thing in web[1]


def near(web, place):
    """The rising tuple of the places tied to this one."""
    return nears(web)[place]


def nears(web):
    """For each place, in order, the rising tuple of the places tied to it."""
    places, ties = web
    beside = {place: [] for place in places}
    for a, b in ties:
        beside[a].append(b)
        beside[b].append(a)
    return {place: tuple(sorted(beside[place])) for place in places}


def within(web, some):
    """The web of some, with the ties between them."""
    return (some, tuple([(a, b) for a, b in web[1] if a in some and b in some]))


def steps_from(beside, some, start):
    """For each place come to from start through some, how many ties away it is (beside as nears tells)."""
    steps = {start: 0}
    waiting = [start]
    at = 0
    while at < len(waiting):
        place = waiting[at]
        at += 1
        for other in beside[place]:
            if other in some and other not in steps:
                steps[other] = steps[place] + 1
                waiting.append(other)
    return steps


def pieces(web, some):
    """The rising tuple of the pieces of some."""
    beside = nears(web)
    told = []
    seen = {}
    # Some rises, so the pieces are met in the order of their least places.
    for place in some:
        if place not in seen:
            piece = tuple(sorted(steps_from(beside, some, place)))
            told.append(piece)
            for member in piece:
                seen[member] = True
    return tuple(told)


def hangs(web, some):
    """Whether some is just one piece."""
    return len(pieces(web, some)) == 1


def way(web, some, one, other):
    """The least of the shortest ways from one to the other through some, None where there is none."""
    beside = nears(web)
    # Counted from the far end, so that each step can be the least one that comes nearer.
    steps = steps_from(beside, some, other)
    if one not in steps:
        return None
    told = [one]
    while told[-1] != other:
        left = steps[told[-1]] - 1
        told.append(min([place for place in beside[told[-1]] if place in steps and steps[place] == left]))
    return tuple(told)


def joins(tie, some, others):
    """Whether the tie has one end in some and one in the others."""
    a, b = tie
    return (a in some and b in others) or (a in others and b in some)


def tied_between(web, some, others):
    """Whether a tie of the web has one end in some and one in the others."""
    for tie in web[1]:
        if joins(tie, some, others):
            return True
    return False
