"""A search for a drawing of a told web, which tells one, or a book why there is none."""

from drawnweb.drawings import drawing_of
from drawnweb.halves import free_places, giving, is_apart, is_dear, is_few, is_untied, lots_given, open_to_free


def sought(web, told, what, below, most):
    """("drawn", drawing), ("none", book), or ("open", None) where more than most places would be asked."""
    word, found, left = seek((web, told, what, below), {}, most)
    return (word, found)


def seek(question, given, left):
    """What is told of this half drawing where so many places may still be asked, and how many may be behind it."""
    web, told = question[0], question[1]
    closing = first_closing(question, given)
    if closing is not None:
        return ("none", closing, left)
    free = free_places(web, given)
    if not free:
        return ("drawn", drawing_of(web, told, lots_given(told, given)), left)
    if left <= 0:
        return ("open", None, left)
    left -= 1
    books = []
    for h in open_to_free(told, given):
        word, found, left = seek(question, giving(given, free[0], h), left)
        if word != "none":
            return (word, found, left)
        books.append(found)
    return ("none", ("ask", free[0], tuple(books)), left)


def first_closing(question, given):
    """The first closing of this half drawing that is so, None where it isn't closed."""
    web, told, what, below = question
    if is_few(web, told, given):
        return ("few",)
    for h in told[0]:
        if is_apart(web, given, h):
            return ("apart", h)
    for h, k in told[1]:
        if is_untied(web, given, h, k):
            return ("untied", h, k)
    if is_dear(web, told, given, what, below):
        return ("dear",)
    return None
