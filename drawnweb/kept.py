"""What is kept of told webs while a web is cut and drawn on.

What is known of a told web is a pair: ("drawn", lots); ("open", None); or ("barred", (web, row,
paper)), the web from which the paper bars it, and the row from there to the web as it is.
"""

from drawnweb.deeds import done, undone
from drawnweb.drawings import drawing_of
from drawnweb.verdicts import verdict


class Kept:
    """A web that deeds are done to, and the verdicts of some told webs, sought anew only where they must be."""

    def __init__(self, web, tolds, most):
        self.tolds = tolds
        self.most = most
        self.sought = 0
        self.now = web
        self.known = tuple([self.known_anew(web, told) for told in tolds])
        self.earlier = []

    def web(self):
        """The web as it is."""
        return self.now

    def do(self, deed):
        """The deed done; refused with NoDeed, number 0, where it is none of the web."""
        behind = done(self.now, deed)
        known = [self.known_behind(behind, deed, told, pair) for told, pair in zip(self.tolds, self.known)]
        self.earlier.append((self.now, self.known))
        self.now, self.known = behind, tuple(known)

    def back(self):
        """The last deed undone; refused with NoBack where there is none."""
        self.now, self.known = undone(self.earlier)

    def words(self):
        """For each told web drawn, barred or open."""
        return tuple([word for word, thing in self.known])

    def searches(self):
        """How many verdicts were sought so far."""
        return self.sought

    def paper(self, k):
        """Of the told web of this number the drawing, None where it is open, or (web, row, paper) that bars it."""
        word, thing = self.known[k]
        if word == "drawn":
            return drawing_of(self.now, self.tolds[k], thing)
        return thing

    def known_anew(self, web, told):
        """What is known of the told web when its verdict in this web is sought."""
        self.sought += 1
        word, found = verdict(web, told, self.most)
        if word == "drawn":
            return (word, found[0])
        if word == "barred":
            return (word, (web, (), found))
        return (word, None)

    def known_behind(self, web, deed, told, pair):
        """What is known of the told web in the web behind the deed, this pair having been known ahead of it."""
        word, thing = pair
        if word == "barred":
            start, row, paper = thing
            return (word, (start, row + (deed,), paper))
        if word == "drawn":
            lots = lots_left(thing, deed)
            if drawing_of(web, told, lots) is not None:
                return (word, lots)
        return self.known_anew(web, told)


def lots_left(lots, deed):
    """The lots behind the deed: without a dropped place; of two drawn together with the one that stays."""
    if deed[0] == "drop":
        return tuple([lot_without(lot, deed[1:]) for lot in lots])
    if deed[0] == "draw":
        return lots_drawn(lots, deed[1], deed[2])
    return lots


def lot_without(lot, gone):
    """The lot without the places that are gone."""
    return tuple([place for place in lot if place not in gone])


def lots_drawn(lots, a, b):
    """The lots when b has become a; the first of them that has either has a then, no other one."""
    told = []
    taken = False
    for lot in lots:
        left = lot_without(lot, (a, b))
        if len(left) < len(lot) and not taken:
            left = tuple(sorted(left + (a,)))
            taken = True
        told.append(left)
    return tuple(told)
