"""Walls and papers looked at slowly, straight by the words of points 19 and 20."""

import functools
import itertools

from plainbooks import Half, grown
from samples import form_of, held_forms
from test_booklooks import plain_book
from test_orders import plain_spreads, plain_widths
from drawnweb.kinds import never

WORDS = ("bare", "pairs", "hub", "stars", "rows", "combs", "forest", "rings", "series")
KNOWN = {}


def plain_sides(web, wall):
    left = [place for place in web[0] if place not in wall]
    found = []
    while left:
        piece = grown(web, set(left), left[0])
        left = [place for place in left if place not in piece]
        places = tuple(sorted(piece | set(wall)))
        ties = {tie for tie in web[1] if set(tie) <= set(places)} | set(itertools.combinations(sorted(wall), 2))
        found.append((places, tuple(sorted(ties))))
    return tuple(found)


def plain_holds_on(told, many):
    if len(told[0]) <= many:
        return False
    for size in range(many + 1):
        for out in itertools.combinations(told[0], size):
            left = set(told[0]) - set(out)
            if grown(told, left, min(left)) != left:
                return False
    return True


@functools.lru_cache(maxsize=None)
def is_held(web, told):
    """Whether rows of deeds lead from the web to one alike to the told one."""
    return form_of(told) in held_forms(form_of(web), KNOWN)


def plain_kind(word, web):
    return not any(is_held(web, barred) for barred in never(word))


@functools.lru_cache(maxsize=None)
def least(web, measure):
    return min(max(measure(web, order), default=0) for order in itertools.permutations(web[0]))


def plain_barred(web, told, paper):
    """Whether a thing that is built like a paper bars the told web from the web."""
    word = paper[0]
    if word == "count":
        return len(told[0]) > len(web[0]) or len(told[1]) > len(web[1])
    if word == "kind":
        return plain_kind(paper[1], web) and not plain_kind(paper[1], told)
    if word in ("width", "spread"):
        measure = plain_widths if word == "width" else plain_spreads
        return max(measure(web, paper[1]), default=0) < least(told, measure)
    if word == "book":
        return len(web[0]) <= 9 and plain_book(Half(web, told, "any", None), paper[1])
    _, wall, papers = paper
    every = plain_sides(web, wall)
    return plain_holds_on(told, len(wall)) and len(papers) == len(every) and all(
        plain_barred(side, told, part) for side, part in zip(every, papers))
