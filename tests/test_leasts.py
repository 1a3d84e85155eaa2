import itertools
import unittest

from samples import all_forms, asked, called, holed
from drawnweb.leasts import least_spread, least_width, spread_table, width_table
from drawnweb.made import beside, both, full, grid, ring, row, spider, star
from drawnweb.orders import spread, width

NOTHING = ((), ())
TREE = (tuple(range(9)), ((0, 1), (1, 2), (1, 3), (3, 4), (4, 5), (4, 6), (6, 7), (6, 8)))
WHEEL = (tuple(range(6)), tuple(sorted(ring(5)[1] + tuple((k, 5) for k in range(5)))))
CUBE = (tuple(range(8)), tuple((a, b) for a, b in itertools.combinations(range(8), 2) if (a ^ b) in (1, 2, 4)))

# Webs with their least width and their least spread.
KNOWN = [
    (NOTHING, 0, 0), (((7,), ()), 0, 0), (((2, 50, 99), ()), 0, 0), (full(2), 1, 1), (full(5), 4, 4), (full(9), 8, 8),
    (row(2), 1, 1), (row(9), 1, 1), (ring(3), 2, 2), (ring(9), 2, 2), (star(3), 1, 1), (star(8), 1, 1),
    (spider(), 1, 2), (TREE, 1, 1), (grid(2, 2), 2, 2), (grid(2, 4), 2, 2), (grid(3, 3), 3, 3), (WHEEL, 3, 3),
    (both(3, 3), 3, 3), (both(2, 6), 2, 2), (both(4, 5), 4, 4), (CUBE, 3, 4), (beside(full(4), row(4)), 3, 3),
    (beside(row(4), full(5)), 4, 4), (beside(ring(4), ring(5)), 2, 2), (beside(spider(), full(2)), 1, 2),
    (beside(((0, 1), ()), full(3)), 2, 2), (holed(grid(3, 3)), 3, 3), (holed(spider()), 1, 2), (holed(full(4)), 3, 3),
]


def plain_table(web, cost):
    """The table by the words of point 12, each number the greatest that is let."""
    places = web[0]
    table = [0]
    for number in range(1, 2 ** len(places)):
        some = {place for i, place in enumerate(places) if number >> i & 1}
        table.append(min(max(table[number - 2 ** i], cost(web, some, place))
                         for i, place in enumerate(places) if place in some))
    return tuple(table)


def beyond(web, place):
    return {other for tie in web[1] if place in tie for other in tie if other != place}


def width_cost(web, some, place):
    met, left = {place}, [place]
    while left:
        at = left.pop()
        for other in beyond(web, at) - met:
            met.add(other)
            if other in some:
                left.append(other)
    return len(met - some)


def spread_cost(web, some, place):
    return len([one for one in some if beyond(web, one) - some])


class Leasts(unittest.TestCase):
    def look(self, web, told, number, measure):
        self.assertEqual(len(told), 2)
        self.assertEqual(told[0], number)
        self.assertEqual(tuple(sorted(told[1])), web[0])
        self.assertEqual(measure(web, told[1]), number)

    def test_of_no_places(self):
        self.assertEqual(asked(self, least_width, NOTHING), (0, ()))
        self.assertEqual(asked(self, least_spread, NOTHING), (0, ()))

    def test_known(self):
        for web, wide, spread_out in KNOWN:
            self.look(web, asked(self, least_width, web), wide, width)
            self.look(web, asked(self, least_spread, web), spread_out, spread)

    def test_least_of_all_orders(self):
        webs = [(tuple(range(many)), ties) for size in range(6) for many, ties in sorted(all_forms(size))]
        webs += [holed(web) for web in webs[::3]] + [grid(2, 3), holed(both(2, 4)), called(WHEEL, (8, 1, 0, 99, 4, 7))]
        for web in webs:
            orders = list(itertools.permutations(web[0]))
            self.look(web, least_width(web), min(width(web, order) for order in orders), width)
            self.look(web, least_spread(web), min(spread(web, order) for order in orders), spread)


class Tables(unittest.TestCase):
    def test_written_out(self):
        self.assertEqual(asked(self, width_table, NOTHING), (0,))
        self.assertEqual(asked(self, spread_table, NOTHING), (0,))
        self.assertEqual(asked(self, width_table, ((6,), ())), (0, 0))
        self.assertEqual(asked(self, width_table, row(3)), (0, 1, 2, 1, 1, 1, 1, 1))
        self.assertEqual(asked(self, spread_table, row(3)), (0, 1, 1, 1, 1, 2, 1, 1))
        self.assertEqual(asked(self, width_table, ((3, 7, 9), ((3, 9),))), (0, 1, 0, 1, 1, 1, 1, 1))
        self.assertEqual(asked(self, spread_table, ((3, 7, 9), ((3, 9),))), (0, 1, 0, 1, 1, 1, 1, 1))

    def test_against_the_words(self):
        webs = [(tuple(range(many)), ties) for size in range(5) for many, ties in sorted(all_forms(size))]
        for web in webs + [holed(web) for web in webs] + [web for web, _, _ in KNOWN]:
            self.assertEqual(asked(self, width_table, web), plain_table(web, width_cost))
            self.assertEqual(asked(self, spread_table, web), plain_table(web, spread_cost))

    def test_one_number_for_each_set_and_the_least_last(self):
        for web, wide, spread_out in KNOWN:
            for table, least in [(width_table(web), wide), (spread_table(web), spread_out)]:
                self.assertEqual(len(table), 2 ** len(web[0]))
                self.assertEqual(table[0], 0)
                self.assertEqual(table[-1], least)


if __name__ == "__main__":
    unittest.main()
