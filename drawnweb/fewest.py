"""The fewest draws, and the fewest cuts, of all drawings of a told web."""

from drawnweb.drawings import extra
from drawnweb.seeking import sought


def fewest(web, told, what, most):
    """("least", number, drawing, book), ("barred", book), or ("open", None) where a search is open."""
    word, found = sought(web, told, "any", None, most)
    if word == "none":
        return ("barred", found)
    drawing = None
    while word == "drawn":
        drawing = found
        word, found = sought(web, told, what, cost_of(web, told, what, drawing), most)
    if word == "open":
        return ("open", None)
    return ("least", cost_of(web, told, what, drawing), drawing, found)


def cost_of(web, told, what, drawing):
    """The draws, or the cuts, of the drawing."""
    lots = drawing[0]
    if what == "draws":
        return sum([len(lot) for lot in lots]) - len(lots)
    return len(extra(web, told, lots))
