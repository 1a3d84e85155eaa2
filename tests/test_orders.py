import itertools
import unittest

from samples import all_webs, asked, called, holed
from drawnweb.made import beside, both, full, grid, ring, row, star
from drawnweb.orders import spread, spreads, width, widths

NOTHING = ((), ())


def plain_widths(web, order):
    """The widths by drawing places away one by one: what is left beside each is tied together."""
    ties = {frozenset(tie) for tie in web[1]}
    told = []
    for place in order:
        ends = {other for tie in ties if place in tie for other in tie if other != place}
        told.append(len(ends))
        ties = {tie for tie in ties if place not in tie} | {frozenset(pair) for pair in itertools.combinations(ends, 2)}
    return tuple(told)


def plain_spreads(web, order):
    told = []
    for at in range(len(order)):
        ahead, behind = set(order[:at + 1]), set(order[at + 1:])
        told.append(len({a for tie in web[1] for a, b in (tie, tie[::-1]) if a in ahead and b in behind}))
    return tuple(told)


class Orders(unittest.TestCase):
    def same(self, web, order, wide, spread_out):
        self.assertEqual(asked(self, widths, web, order), wide)
        self.assertEqual(asked(self, spreads, web, order), spread_out)
        self.assertEqual(asked(self, width, web, order), max(wide, default=0))
        self.assertEqual(asked(self, spread, web, order), max(spread_out, default=0))

    def test_of_no_places_and_no_ties(self):
        self.same(NOTHING, (), (), ())
        self.same(((5,), ()), (5,), (0,), (0,))
        self.same(((5, 8, 9), ()), (9, 5, 8), (0, 0, 0), (0, 0, 0))

    def test_full(self):
        self.same(full(4), (0, 1, 2, 3), (3, 2, 1, 0), (1, 2, 3, 0))
        self.same(full(4), (3, 1, 0, 2), (3, 2, 1, 0), (1, 2, 3, 0))

    def test_rows(self):
        self.same(row(4), (0, 1, 2, 3), (1, 1, 1, 0), (1, 1, 1, 0))
        self.same(row(4), (3, 2, 1, 0), (1, 1, 1, 0), (1, 1, 1, 0))
        self.same(row(4), (1, 2, 0, 3), (2, 2, 1, 0), (1, 2, 1, 0))
        self.same(row(5), (1, 3, 0, 2, 4), (2, 2, 1, 1, 0), (1, 2, 2, 1, 0))

    def test_through_places_ahead_alone(self):
        # From 4 one comes to 0 through 1, and to 3 through 1 and 2; all these are ahead of it.
        self.same(((0, 1, 2, 3, 4), ((0, 1), (1, 2), (1, 4), (2, 3))), (1, 2, 4, 0, 3), (3, 3, 2, 1, 0), (1, 2, 2, 1, 0))

    def test_rings_stars_grids(self):
        self.same(ring(5), (0, 1, 2, 3, 4), (2, 2, 2, 1, 0), (1, 2, 2, 2, 0))
        self.same(star(3), (0, 1, 2, 3), (3, 2, 1, 0), (1, 1, 1, 0))
        self.same(star(3), (3, 2, 1, 0), (1, 1, 1, 0), (1, 2, 3, 0))
        self.same(grid(3, 3), tuple(range(9)), (2, 3, 3, 3, 3, 3, 2, 1, 0), (1, 2, 3, 3, 3, 3, 3, 2, 0))

    def test_under_names_with_holes(self):
        web = called(ring(5), (90, 3, 41, 40, 7))
        self.same(web, (90, 3, 41, 40, 7), (2, 2, 2, 1, 0), (1, 2, 2, 2, 0))
        self.same(beside(web, ((1, 8), ((1, 8),))), (99, 90, 3, 92, 41, 40, 7), (1, 2, 2, 0, 2, 1, 0), (1, 2, 3, 2, 2, 2, 0))

    def test_great_webs(self):
        for web in [row(24), ring(24), grid(6, 4), grid(4, 6), both(2, 22), star(23), holed(grid(4, 6)), holed(both(3, 20))]:
            for order in [web[0], web[0][::-1], web[0][::2] + web[0][1::2], web[0][12:] + web[0][:12]]:
                self.same(web, order, plain_widths(web, order), plain_spreads(web, order))
        self.assertEqual(width(grid(4, 6), tuple(range(24))), 4)
        self.assertEqual(spread(grid(4, 6), tuple(range(24))), 4)

    def test_all_orders_of_small_webs(self):
        for web in list(map(holed, all_webs(4))) + list(all_webs(3)):
            for order in itertools.permutations(web[0]):
                self.assertEqual(widths(web, order), plain_widths(web, order))
                self.assertEqual(spreads(web, order), plain_spreads(web, order))
                self.assertEqual(width(web, order), max(plain_widths(web, order)))
                self.assertEqual(spread(web, order), max(plain_spreads(web, order)))


if __name__ == "__main__":
    unittest.main()
