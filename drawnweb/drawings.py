"""Drawings of a told web in a web: lots of places that hang together, with ties between."""

from drawnweb.things import is_tuple_of
from drawnweb.webs import are_some, hangs, is_tie, joins, nears, steps_from, tied_between


def shows_drawn(web, told, thing):
    """Whether the thing, which may be anything, is a drawing of the told web in the web."""
    if not is_tuple_of(thing, 2):
        return False
    lots, ties = thing
    return are_lots(web, told, lots) and are_between(web, told, lots, ties)


def are_lots(web, told, thing):
    """Whether the thing has, for each told place, a lot of the web that hangs together, no place in two."""
    if not is_tuple_of(thing, len(told[0])):
        return False
    if not all([are_some(web, lot) and hangs(web, lot) for lot in thing]):
        return False
    members = members_of(thing)
    return len(set(members)) == len(members)


def are_between(web, told, lots, thing):
    """Whether the thing has, for each tie of the told web, a tie of the web between its lots."""
    if not is_tuple_of(thing, len(told[1])):
        return False
    lot_of = dict(zip(told[0], lots))
    return all([is_tie(web, tie) and joins(tie, lot_of[h], lot_of[k]) for tie, (h, k) in zip(thing, told[1])])


def members_of(lots):
    """The places of all lots, as often as they are in them."""
    return [place for lot in lots for place in lot]


def drawing_of(web, told, lots):
    """The drawing by these lots with the least ties, None where there is none."""
    if not are_lots(web, told, lots):
        return None
    lot_of = dict(zip(told[0], lots))
    least = []
    for h, k in told[1]:
        between = [tie for tie in web[1] if joins(tie, lot_of[h], lot_of[k])]
        if not between:
            return None
        least.append(between[0])
    return (lots, tuple(least))


def extra(web, told, lots):
    """The pairs of told places that aren't tied, but whose lots have a tie of the web between them."""
    places, ties = told
    lot_of = dict(zip(places, lots))
    loose = [(h, k) for h in places for k in places if h < k and (h, k) not in ties]
    return tuple([(h, k) for h, k in loose if tied_between(web, lot_of[h], lot_of[k])])


def row_of(web, told, drawing):
    """A row of deeds behind which each lot's least place stands for its told place."""
    lots = drawing[0]
    members = members_of(lots)
    row = [("drop", place) for place in web[0] if place not in members]
    for lot in lots:
        row += draws_of(web, lot)
    least_of = {h: lot[0] for h, lot in zip(told[0], lots)}
    ends = [(least_of[h], least_of[k]) for h, k in extra(web, told, lots)]
    return tuple(row + [("cut", min(pair), max(pair)) for pair in ends])


def draws_of(web, lot):
    """The draws by which the lot is drawn together to its least place."""
    # In this order each place has a tie to one that was drawn to the least place ahead of it.
    met = steps_from(nears(web), lot, lot[0])
    return [("draw", lot[0], place) for place in met if place != lot[0]]
