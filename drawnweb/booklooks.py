"""Whether a thing is a book: why a told web can't be drawn, looked at branch by branch."""

from drawnweb.halves import free_places, giving, is_apart, is_dear, is_few, is_untied, open_to_free
from drawnweb.things import is_tuple_of, is_whole, is_worded


def shows_book(web, told, what, below, thing):
    """Whether the thing, which may be anything, is a book of the half drawing that gives nothing."""
    return is_book(web, told, {}, what, below, thing)


def is_book(web, told, given, what, below, thing):
    """Whether the thing is a book of this half drawing."""
    if not is_worded(thing):
        return False
    if thing[0] == "ask":
        return is_asking(web, told, given, what, below, thing)
    return is_closing(web, told, given, what, below, thing)


def is_asking(web, told, given, what, below, thing):
    """Whether the thing asks a free place and has a book for each that is open to it."""
    if not is_tuple_of(thing, 3):
        return False
    place, books = thing[1], thing[2]
    if not is_whole(place) or place not in free_places(web, given):
        return False
    branches = open_to_free(told, given)
    if not is_tuple_of(books, len(branches)):
        return False
    for h, book in zip(branches, books):
        if not is_book(web, told, giving(given, place, h), what, below, book):
            return False
    return True


def is_closing(web, told, given, what, below, thing):
    """Whether the thing, a tuple that begins with a text, is a closing of this half drawing that is so."""
    word = thing[0]
    names = thing[1:]
    # A truth equals a number in Python, so the kinds are looked at ahead of the told web.
    if not all([is_whole(name) for name in names]):
        return False
    if word == "few":
        return names == () and is_few(web, told, given)
    if word == "apart":
        return len(names) == 1 and names[0] in told[0] and is_apart(web, given, names[0])
    if word == "untied":
        return names in told[1] and is_untied(web, given, names[0], names[1])
    if word == "dear":
        return names == () and is_dear(web, told, given, what, below)
    return False
