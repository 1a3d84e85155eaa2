"""Half drawings, by what they are closed, and what is open to their free places.

A half drawing is a dict from places of the web to the told places they are given to, or to None
for those given to none. Places that aren't in it are free.
"""

from drawnweb.drawings import extra
from drawnweb.webs import nears, steps_from, tied_between


def free_places(web, given):
    """The places that are given to nothing yet."""
    return tuple([place for place in web[0] if place not in given])


def given_to(given, h):
    """The rising tuple of the places given to the told place h."""
    return tuple(sorted([place for place in given if given[place] == h]))


def lots_given(told, given):
    """For each told place, in order, what is given to it."""
    return tuple([given_to(given, h) for h in told[0]])


def lacking(told, given):
    """The told places that have none."""
    return tuple([h for h in told[0] if not given_to(given, h)])


def room(web, given, h):
    """What is given to the told place h and all that is free, a rising tuple."""
    return tuple([place for place in web[0] if place not in given or given[place] == h])


def is_few(web, told, given):
    """Whether fewer places are free than told places have none."""
    return len(free_places(web, given)) < len(lacking(told, given))


def is_apart(web, given, h):
    """Whether places given to the told place h are in two pieces of its room."""
    mine = given_to(given, h)
    if len(mine) < 2:
        return False
    together = steps_from(nears(web), room(web, given, h), mine[0])
    return any([place not in together for place in mine])


def is_untied(web, given, h, k):
    """Whether the web has no tie between the rooms of the told places h and k."""
    return not tied_between(web, room(web, given, h), room(web, given, k))


def is_dear(web, told, given, what, below):
    """Whether what is given needs so many draws, or cuts, as below or more; of any nothing is."""
    if what == "draws":
        return draws_given(told, given) >= below
    if what == "cuts":
        return cuts_given(web, told, given) >= below
    return False


def draws_given(told, given):
    """How many places the told places that have some have, each less 1."""
    return sum([len(lot) - 1 for lot in lots_given(told, given) if lot])


def cuts_given(web, told, given):
    """How many pairs of told places that aren't tied have a tie between what is given to them."""
    return len(extra(web, told, lots_given(told, given)))


def are_twins(told, h, k):
    """Whether the told web is the same when the told places h and k are exchanged."""
    beside = nears(told)
    return [j for j in beside[h] if j != k] == [j for j in beside[k] if j != h]


def open_to_free(told, given):
    """What is open to a free place, in order, whichever place it is: told places, then None."""
    empty = lacking(told, given)
    # Of twins that have none only the first is open: the others would lead to the same again.
    later = [h for h in empty if any([k < h and are_twins(told, k, h) for k in empty])]
    return tuple([h for h in told[0] if h not in later]) + (None,)


def giving(given, place, h):
    """The half drawing that also gives the place to the told place h, or to none."""
    more = dict(given)
    more[place] = h
    return more
