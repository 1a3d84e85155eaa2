"""Books made and looked at slowly, straight by the words of points 15 to 17."""

import itertools

CLOSINGS = ("few", "apart", "untied", "dear")


def tied(web, a, b):
    return (min(a, b), max(a, b)) in web[1]


def grown(web, some, start):
    """All places of some that come from start by ties through some."""
    piece = {start}
    while True:
        more = {b for a in piece for b in some if tied(web, a, b)} - piece
        if not more:
            return piece
        piece |= more


class Half:
    """A half drawing with its question."""

    def __init__(self, web, told, what, below, given=()):
        self.web, self.told, self.what, self.below, self.given = web, told, what, below, given
        self.free = [place for place in web[0] if place not in dict(given)]
        self.lots = {h: {place for place, owner in given if owner == h} for h in told[0]}
        self.rooms = {h: self.lots[h] | set(self.free) for h in told[0]}

    def give(self, place, h):
        return Half(self.web, self.told, self.what, self.below, self.given + ((place, h),))

    def twins(self, h, k):
        swap = {h: k, k: h}
        swapped = [tuple(sorted((swap.get(a, a), swap.get(b, b)))) for a, b in self.told[1]]
        return sorted(swapped) == sorted(self.told[1])

    def choices(self):
        bare = [h for h in self.told[0] if not self.lots[h]]
        shut = [h for h in bare for k in bare if k < h and self.twins(h, k)]
        return [h for h in self.told[0] if h not in shut] + [None]

    def few(self):
        return len(self.free) < len([h for h in self.told[0] if not self.lots[h]])

    def apart(self, h):
        lot = self.lots[h]
        return any(b not in grown(self.web, self.rooms[h], a) for a in lot for b in lot)

    def untied(self, h, k):
        return not any(tied(self.web, a, b) for a in self.rooms[h] for b in self.rooms[k] if a != b)

    def dear(self):
        if self.what == "any":
            return False
        if self.what == "draws":
            return sum(len(lot) - 1 for lot in self.lots.values() if lot) >= self.below
        pairs = [pair for pair in itertools.combinations(self.told[0], 2) if pair not in self.told[1]]
        return len([1 for h, k in pairs
                    if any(tied(self.web, a, b) for a in self.lots[h] for b in self.lots[k])]) >= self.below

    def every_closing(self):
        """All closings that can be written of the told web, whether they are so or not."""
        return ([("few",)] + [("apart", h) for h in self.told[0]]
                + [("untied",) + tie for tie in self.told[1]] + [("dear",)])

    def is_so(self, closing):
        word, names = closing[0], closing[1:]
        return {"few": self.few, "apart": self.apart, "untied": self.untied, "dear": self.dear}[word](*names)

    def closings(self, words=CLOSINGS):
        """The closings that are so, those of the first word first."""
        told = [closing for closing in self.every_closing() if self.is_so(closing)]
        return sorted(told, key=lambda closing: words.index(closing[0]))


def sought(half, words=CLOSINGS, pick=min):
    """None where there is a drawing, else a book; looked at by words in this order, asked as picked."""
    closings = half.closings(words)
    if closings:
        return closings[0]
    if not half.free:
        return None
    place = pick(half.free)
    books = []
    for h in half.choices():
        books.append(sought(half.give(place, h), words, pick))
        if books[-1] is None:
            return None
    return ("ask", place, tuple(books))


def leaves(half, book, path=()):
    """Each closing of a book with the way to it and its half drawing."""
    if book[0] != "ask":
        yield path, half, book
        return
    for at, (h, part) in enumerate(zip(half.choices(), book[2])):
        yield from leaves(half.give(book[1], h), part, path + (at,))


def asks(half, book, path=()):
    """Each asking of a book with the way to it and its half drawing."""
    if book[0] == "ask":
        yield path, half, book
        for at, (h, part) in enumerate(zip(half.choices(), book[2])):
            yield from asks(half.give(book[1], h), part, path + (at,))


def put(book, path, part):
    """The book with another part at this way."""
    if not path:
        return part
    books = list(book[2])
    books[path[0]] = put(books[path[0]], path[1:], part)
    return (book[0], book[1], tuple(books))


def is_drawn(web, told, what, below):
    """Whether some lots of all are those of a drawing (with draws, with extra pairs below the number)."""
    for owners in itertools.product((None,) + told[0], repeat=len(web[0])):
        lots = {h: {place for place, owner in zip(web[0], owners) if owner == h} for h in told[0]}
        if all(lots.values()) and drawn_by(web, told, lots) and cost(web, told, what, lots) < (below or 0) + (what == "any"):
            return True
    return False


def drawn_by(web, told, lots):
    return (all(grown(web, lot, min(lot)) == lot for lot in lots.values())
            and all(any(tied(web, a, b) for a in lots[h] for b in lots[k]) for h, k in told[1]))


def cost(web, told, what, lots):
    if what == "any":
        return 0
    if what == "draws":
        return sum(len(lot) - 1 for lot in lots.values())
    return len([1 for h, k in itertools.combinations(told[0], 2) if (h, k) not in told[1]
                and any(tied(web, a, b) for a in lots[h] for b in lots[k])])


class Open(Exception):
    """More places would be asked than may be."""


def searched(half, most):
    """What a search tells, step by step by the words of point 17, and the places it asked."""
    asked = []

    def go(half):
        closings = half.closings()
        if closings:
            return ("none", closings[0])
        if not half.free:
            return ("drawn", (tuple(tuple(sorted(half.lots[h])) for h in half.told[0]), least_ties(half)))
        if len(asked) == most:
            raise Open
        place = min(half.free)
        asked.append(place)
        books = []
        for h in half.choices():
            word, found = go(half.give(place, h))
            if word == "drawn":
                return (word, found)
            books.append(found)
        return ("none", ("ask", place, tuple(books)))

    try:
        return go(half), asked
    except Open:
        return ("open", None), asked


def least_ties(half):
    """For each told tie the least tie of the web between its lots."""
    return tuple(min((min(a, b), max(a, b)) for a in half.lots[h] for b in half.lots[k] if tied(half.web, a, b))
                 for h, k in half.told[1])


def all_costs(web, told, what):
    """The costs of all drawings, rising, each once."""
    costs = set()
    for owners in itertools.product((None,) + told[0], repeat=len(web[0])):
        lots = {h: {place for place, owner in zip(web[0], owners) if owner == h} for h in told[0]}
        if all(lots.values()) and drawn_by(web, told, lots):
            costs.add(cost(web, told, what, lots))
    return sorted(costs)
