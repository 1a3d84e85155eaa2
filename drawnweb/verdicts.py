"""Whether a told web is drawn in a web or barred from it, with a drawing or a paper."""

from drawnweb.barlooks import shows_barred
from drawnweb.errors import NoWall
from drawnweb.kinds import kinds
from drawnweb.leasts import least_spread, least_width
from drawnweb.seeking import sought
from drawnweb.walls import holds_on, sides
from drawnweb.webs import are_some


def verdict(web, told, most):
    """("drawn", drawing), ("barred", paper), or ("open", None) where more than most places would be asked."""
    paper = paper_at_once(web, told)
    if paper is not None:
        return ("barred", paper)
    word, found = sought(web, told, "any", None, most)
    if word == "none":
        return ("barred", ("book", found))
    return (word, found)


def paper_at_once(web, told):
    """A paper by count, kind, width or spread, None where none of these bars the told web."""
    for paper in [("count",)] + [("kind", word) for word in kinds(web)]:
        if shows_barred(web, told, paper):
            return paper
    # Where some order bars the told web, one of the least width, or spread, does.
    for paper in [("width", least_width(web)[1]), ("spread", least_spread(web)[1])]:
        if shows_barred(web, told, paper):
            return paper
    return None


def walled(web, told, wall, most):
    """("barred", paper), ("drawn", drawing) or ("open", None) by the sides of the wall; else refused with NoWall."""
    if not are_some(web, wall):
        raise NoWall("this is no wall of the web")
    if not holds_on(told, len(wall)):
        raise NoWall("the told web doesn't hold on without as many places")
    verdicts = [verdict(side, told, most) for side in sides(web, wall)]
    if all([word == "barred" for word, found in verdicts]):
        return ("barred", ("wall", wall, tuple([paper for word, paper in verdicts])))
    for word, found in verdicts:
        # A wall of two places or more has ties in its sides that the web may not have.
        if word == "drawn" and len(wall) <= 1:
            return (word, found)
    return ("open", None)
