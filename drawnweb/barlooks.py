"""Whether a thing is a paper that bars a told web from a web.

Each sort of paper has a look of its own; it is handed what the paper has behind its word, a tuple
of anything.
"""

from drawnweb.booklooks import shows_book
from drawnweb.kinds import is_kind, is_word
from drawnweb.leasts import least_spread, least_width
from drawnweb.orders import is_order, spread, width
from drawnweb.things import is_tuple_of, is_worded
from drawnweb.walls import holds_on, sides
from drawnweb.webs import are_some

MOST_PLACES_OF_A_BOOK = 9


def bars_by_count(web, told, rest):
    """Whether the told web has more places or more ties."""
    return is_tuple_of(rest, 0) and (len(told[0]) > len(web[0]) or len(told[1]) > len(web[1]))


def bars_by_kind(web, told, rest):
    """Whether the web is of the kind of this word, the told one isn't."""
    return is_tuple_of(rest, 1) and is_word(rest[0]) and is_kind(rest[0], web) and not is_kind(rest[0], told)


def bars_by_width(web, told, rest):
    """Whether this order of the web has a width below the told web's least one."""
    return is_tuple_of(rest, 1) and is_order(web, rest[0]) and width(web, rest[0]) < least_width(told)[0]


def bars_by_spread(web, told, rest):
    """Whether this order of the web has a spread below the told web's least one."""
    return is_tuple_of(rest, 1) and is_order(web, rest[0]) and spread(web, rest[0]) < least_spread(told)[0]


def bars_by_wall(web, told, rest):
    """Whether the told web holds on without as many as this wall has, and these papers bar it from each side."""
    if not is_tuple_of(rest, 2):
        return False
    wall, papers = rest
    if not are_some(web, wall) or not holds_on(told, len(wall)):
        return False
    every = sides(web, wall)
    if not is_tuple_of(papers, len(every)):
        return False
    for side, paper in zip(every, papers):
        if not shows_barred(side, told, paper):
            return False
    return True


def bars_by_book(web, told, rest):
    """Whether this is a book of what any, the web having few enough places for books."""
    return (is_tuple_of(rest, 1) and len(web[0]) <= MOST_PLACES_OF_A_BOOK
            and shows_book(web, told, "any", None, rest[0]))


LOOKS = {
    "count": bars_by_count,
    "kind": bars_by_kind,
    "width": bars_by_width,
    "spread": bars_by_spread,
    "wall": bars_by_wall,
    "book": bars_by_book,
}


def shows_barred(web, told, thing):
    """Whether the thing, which may be anything, is a paper that bars the told web from the web."""
    if not is_worded(thing) or thing[0] not in LOOKS:
        return False
    look = LOOKS[thing[0]]
    return look(web, told, thing[1:])
