"""Kinds of webs, by what they never hold.

Each kind has a look of its own that is true just where none of the webs it never holds is drawn in
the web; so webs of many places need no search.
"""

from drawnweb.made import beside, diamond, full, row, spider, star
from drawnweb.webs import nears, pieces, way


def never(word):
    """The webs that the kind of this word never holds."""
    table = {
        "bare": (full(2),),
        "pairs": (row(3),),
        "hub": (full(3), beside(full(2), full(2))),
        "stars": (full(3), row(4)),
        "rows": (full(3), star(3)),
        "combs": (full(3), spider()),
        "forest": (full(3),),
        "rings": (diamond(),),
        "series": (full(4),),
    }
    return table[word]


def is_bare(web):
    """Whether there is no tie."""
    return web[1] == ()


def is_pairs(web):
    """Whether no place has two ties: three lots in a row always hold such a place."""
    return most_ties(web) <= 1


def is_hub(web):
    """Whether there is no ring and no two ties without a common place."""
    ties = web[1]
    return is_forest(web) and all([a in tie or b in tie for a, b in ties for tie in ties])


def is_stars(web):
    """Whether each tie has an end with no other tie: else it is in a ring or the middle of a row of four."""
    ties_of = nears(web)
    return all([len(ties_of[a]) == 1 or len(ties_of[b]) == 1 for a, b in web[1]])


def is_rows(web):
    """Whether there is no ring and no place has three ties: without rings a star comes from such a place alone."""
    return is_forest(web) and most_ties(web) <= 2


def is_combs(web):
    """Whether there is no ring and no place from which three rows of two places go out, a spider's legs."""
    ties_of = nears(web)
    longer = [len([other for other in ties_of[place] if len(ties_of[other]) > 1]) for place in web[0]]
    return is_forest(web) and max(longer, default=0) <= 2


def is_forest(web):
    """Whether there is no ring: each tie then makes one piece of two."""
    places, ties = web
    return len(places) == len(ties) + len(pieces(web, places))


def is_rings(web):
    """Whether each tie is in one ring at most: two rings with a tie in common are drawn to a diamond."""
    forest, closing = parted(web)
    used = []
    # Each tie beyond the forest closes a ring along its way there. If these rings share no tie,
    # there are no other rings.
    for a, b in closing:
        used += ties_along(way(forest, forest[0], a, b))
    return len(set(used)) == len(used)


def is_series(web):
    """Whether nothing is left when places of at most two ties are drawn away, one by one.

    A full web of four is kept by this, each place of it having three ties; and where each place
    left has three ties or more, one is drawn in it.
    """
    ties_of = nears(web)
    while ties_of:
        few = [place for place in ties_of if len(ties_of[place]) <= 2]
        if not few:
            return False
        ties_of = drawn_away(ties_of, few[0])
    return True


def most_ties(web):
    """The most ties that a place has, 0 of no places."""
    ties_of = nears(web)
    return max([len(ties_of[place]) for place in web[0]], default=0)


def parted(web):
    """The web with ties that close no ring, as many as it has, and the ties left over."""
    places, ties = web
    kept = []
    closing = []
    for a, b in ties:
        if way((places, tuple(kept)), places, a, b) is None:
            kept.append((a, b))
        else:
            closing.append((a, b))
    return ((places, tuple(kept)), closing)


def ties_along(path):
    """The ties between places that follow one another."""
    return [(min(a, b), max(a, b)) for a, b in zip(path, path[1:])]


def drawn_away(ties_of, gone):
    """What nears tells of the web without a place of at most two ties, those it was tied to being tied."""
    ends = ties_of[gone]
    left = {place: [other for other in ties_of[place] if other != gone] for place in ties_of if place != gone}
    if len(ends) == 2 and ends[1] not in left[ends[0]]:
        left[ends[0]].append(ends[1])
        left[ends[1]].append(ends[0])
    return left


LOOKS = {
    "bare": is_bare,
    "pairs": is_pairs,
    "hub": is_hub,
    "stars": is_stars,
    "rows": is_rows,
    "combs": is_combs,
    "forest": is_forest,
    "rings": is_rings,
    "series": is_series,
}


def is_word(thing):
    """Whether the thing, which may be anything, is the word of a kind."""
    return isinstance(thing, str) and thing in LOOKS


def is_kind(word, web):
    """Whether the web is of the kind of this word."""
    look = LOOKS[word]
    return look(web)


def kinds(web):
    """The words of the web's kinds, in order."""
    return tuple([word for word in LOOKS if is_kind(word, web)])
