"""Why a web isn't of a kind: a drawing in it of a web that the kind never holds."""

from drawnweb.deeds import deeds, lots_behind, web_behind
from drawnweb.drawings import drawing_of
from drawnweb.errors import OfKind
from drawnweb.forms import alike
from drawnweb.kinds import is_kind, never


def not_kind(word, web):
    """The number of a web that the kind never holds and a drawing of it; refused with OfKind where there is none."""
    if is_kind(word, web):
        raise OfKind("the web is of this kind")
    row, least = stripped(word, web)
    tolds = never(word)
    # What holds one of these, but holds none behind any deed, is alike to it.
    number = [alike(told, least) is not None for told in tolds].index(True)
    lot_of = dict(lots_behind(web, row))
    lots = tuple([lot_of[name] for name in alike(tolds[number], least)])
    return (number, drawing_of(web, tolds[number], lots))


def stripped(word, web):
    """A row of deeds and the web behind it, which isn't of the kind, but would be behind any other deed."""
    row = ()
    now = web
    deed = sparing(word, now)
    while deed is not None:
        row += (deed,)
        now = web_behind(now, deed)
        deed = sparing(word, now)
    return (row, now)


def sparing(word, web):
    """A deed behind which the web still isn't of the kind, None where there is none."""
    # Backward, for drops come last and leave the least to be tried.
    for deed in deeds(web)[::-1]:
        if not is_kind(word, web_behind(web, deed)):
            return deed
    return None
