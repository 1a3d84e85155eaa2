"""Made webs, with places from 0 on."""


def web_of(many, ties):
    """The web of the places from 0 on, so many, with these ties in whatever order."""
    return (tuple(range(many)), tuple(sorted(ties)))


def full(many):
    """So many places, each two tied."""
    return web_of(many, [(a, b) for a in range(many) for b in range(a + 1, many)])


def row(many):
    """So many places, each tied to the next."""
    return web_of(many, [(a, a + 1) for a in range(many - 1)])


def ring(many):
    """A row of 3 or more places, the last one tied to the first, too."""
    return web_of(many, [(a, a + 1) for a in range(many - 1)] + [(0, many - 1)])


def star(many):
    """Place 0 tied to so many others."""
    return both(1, many)


def both(one, other):
    """Each of the first places, one in number, tied to each of the other ones behind."""
    return web_of(one + other, [(a, b) for a in range(one) for b in range(one, one + other)])


def spider():
    """Place 0 with three legs of two places."""
    return web_of(7, [(0, 1), (0, 2), (0, 3), (1, 4), (2, 5), (3, 6)])


def diamond():
    """The full web of 4 without the tie of 2 and 3."""
    return web_of(4, [(a, b) for a, b in full(4)[1] if (a, b) != (2, 3)])


def grid(wide, high):
    """Lines of places, high in number, each place tied to the one behind it and to the one below it."""
    many = wide * high
    along = [(r * wide + c, r * wide + c + 1) for r in range(high) for c in range(wide - 1)]
    down = [(place, place + wide) for place in range(many - wide)]
    return web_of(many, along + down)


def beside(one, other):
    """Both webs as one, the other's places numbered on behind those of one."""
    shift = max(one[0], default=-1) + 1
    places = one[0] + tuple([place + shift for place in other[0]])
    ties = one[1] + tuple([(a + shift, b + shift) for a, b in other[1]])
    return (places, ties)
