"""Walls of a web, the sides they leave, and how many places a told web holds on without."""

from drawnweb.webs import pieces, way, within


def sides(web, wall):
    """For each piece of the places outside of the wall, the web of it and the wall, the wall's places all tied."""
    others = tuple([place for place in web[0] if place not in wall])
    return tuple([side_of(web, wall, piece) for piece in pieces(web, others)])


def side_of(web, wall, piece):
    """The web of the piece and the wall, with the ties within, and each two places of the wall tied."""
    places, ties = within(web, tuple(sorted(piece + wall)))
    across = [(a, b) for a in wall for b in wall if a < b]
    return (places, tuple(sorted(set(ties) | set(across))))


def holds_on(told, many):
    """Whether the told web has more than so many places and hangs together without any so many or fewer."""
    places = told[0]
    if len(places) <= many:
        return False
    # Some place is always left; where they don't hang together, two are left without a way between them.
    for a in places:
        for b in places:
            if a < b and is_parted(told, places, a, b, many):
                return False
    return True


def is_parted(web, some, a, b, many):
    """Whether no way from a to b through some is left when so many of the others, or fewer, are taken out."""
    path = way(web, some, a, b)
    if path is None:
        return True
    if many <= 0:
        return False
    # A place of this way must go, whichever others do; a tie from a to b has none.
    for gone in path[1:-1]:
        if is_parted(web, tuple([place for place in some if place != gone]), a, b, many - 1):
            return True
    return False
