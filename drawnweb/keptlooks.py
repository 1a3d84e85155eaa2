"""Whether a thing tells why a told web is kept barred."""

from drawnweb.barlooks import shows_barred
from drawnweb.deeds import played
from drawnweb.errors import NoDeed
from drawnweb.things import is_tuple_of
from drawnweb.webs import is_web

MOST_PLACES = 24
MOST_DEEDS = 60


def shows_kept(web, told, thing):
    """Whether the thing, which may be anything, is (web, row, paper) that leads here and bars the told web."""
    if not is_tuple_of(thing, 3):
        return False
    start, row, paper = thing
    if not is_web(start) or len(start[0]) > MOST_PLACES:
        return False
    return leads(start, row, web) and shows_barred(start, told, paper)


def leads(start, row, web):
    """Whether the thing given as row is a tuple of few enough deeds that leads from the one web to the other."""
    if not isinstance(row, tuple) or len(row) > MOST_DEEDS:
        return False
    try:
        return played(start, row) == web
    except NoDeed:
        return False
