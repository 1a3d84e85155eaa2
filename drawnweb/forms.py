"""Webs called by other names: which are alike, the forms they have in common, and the forms a web holds."""

from drawnweb.deeds import deeds, web_behind
from drawnweb.leasts import all_sets
from drawnweb.webs import nears


def renamed(web, names):
    """The web with its places, in order, called by these names."""
    places, ties = web
    name_of = dict(zip(places, names))
    ends = [(name_of[a], name_of[b]) for a, b in ties]
    return (tuple(sorted(names)), tuple(sorted([(min(pair), max(pair)) for pair in ends])))


def alike(one, other):
    """The least names by which one renamed is other, None where there are none."""
    if len(one[0]) != len(other[0]) or len(one[1]) != len(other[1]):
        return None
    return names_on((nears(one), nears(other)), ())


def names_on(both_nears, names):
    """The least names that begin with these and rename one to other, None where there are none."""
    near_one, near_other = both_nears
    if len(names) == len(near_one):
        return names
    # Tried as they rise, so the first names that come to the end are the least.
    for name in near_other:
        if name not in names and fits(both_nears, names, name):
            found = names_on(both_nears, names + (name,))
            if found is not None:
                return found
    return None


def fits(both_nears, names, name):
    """Whether the next place of one can be called so, its ties to those that have names being other's."""
    near_one, near_other = both_nears
    places = list(near_one)
    ties, others = near_one[places[len(names)]], near_other[name]
    if len(ties) != len(others):
        return False
    return all([(place in ties) == (given in others) for place, given in zip(places, names)])


def form(web):
    """The least of the webs alike to this one with places from 0 on."""
    return min([renamed(web, names) for names in all_names(len(web[0]))])


def all_names(many):
    """The numbers from 0 on, so many, in all orders."""
    told = [()]
    for name in range(many):
        told = [names[:at] + (name,) + names[at:] for names in told for at in range(name + 1)]
    return told


def small(many):
    """The rising tuple of the forms of all webs of so many places."""
    if many == 0:
        return (((), ()),)
    # Each web is one of a place fewer with a last place tied to some of the others.
    return tuple(sorted({form(grown(web, some)) for web in small(many - 1) for some in all_sets(web)}))


def grown(web, some):
    """The web, whose places are numbered from 0 on, with one place more, which is tied to some."""
    last = len(web[0])
    return (web[0] + (last,), tuple(sorted(web[1] + tuple([(place, last) for place in some]))))


def held(web):
    """The rising tuple of the forms of all webs to which rows of deeds lead from this one, itself too."""
    met = [form(web)]
    at = 0
    # Alike webs lead to alike ones, so each form is gone on from once.
    while at < len(met):
        now = met[at]
        at += 1
        for deed in deeds(now):
            behind = form(web_behind(now, deed))
            if behind not in met:
                met.append(behind)
    return tuple(sorted(met))
