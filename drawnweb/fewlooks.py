"""Whether a thing tells the fewest draws, or cuts, of all drawings of a told web."""

from drawnweb.booklooks import shows_book
from drawnweb.drawings import shows_drawn
from drawnweb.fewest import cost_of
from drawnweb.things import is_tuple_of, is_whole, is_worded


def shows_fewest(web, told, what, thing):
    """Whether the thing, which may be anything, has a drawing of its number and a book that there is none below."""
    if not is_tuple_of(thing, 4) or not is_worded(thing):
        return False
    word, number, drawing, book = thing
    if word != "least" or not is_whole(number) or not shows_drawn(web, told, drawing):
        return False
    return cost_of(web, told, what, drawing) == number and shows_book(web, told, what, number, book)
