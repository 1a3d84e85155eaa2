import itertools
import random
import unittest

from plainpapers import least
from samples import Prickly, all_forms, asked, called, holed, nested, odd_things
from test_leasts import CUBE, KNOWN, TREE, spread_cost, width_cost
from test_orders import plain_spreads, plain_widths
from drawnweb.leasts import least_spread, least_width, spread_table, width_table
from drawnweb.made import both, full, grid, ring, row, spider, star
from drawnweb.tablelooks import shows_spread, shows_width

NOTHING = ((), ())
ONE = ((7,), ())
# Each measure's look, table, least number, cost by the words, and widths or spreads by the words.
MEASURES = [
    (shows_width, width_table, least_width, width_cost, plain_widths),
    (shows_spread, spread_table, least_spread, spread_cost, plain_spreads),
]


def plain_shows(web, many, table, cost):
    """By the words of point 12, of a tuple of whole numbers."""
    places = web[0]
    if len(table) != 2 ** len(places) or table[0] > 0:
        return False
    for number in range(1, len(table)):
        some = {place for i, place in enumerate(places) if number >> i & 1}
        for i, place in enumerate(places):
            if place in some and table[number] > max(table[number - 2 ** i], cost(web, some, place)):
                return False
    return table[-1] >= many


def put(table, at, number):
    return table[:at] + (number,) + table[at + 1:]


class Tables(unittest.TestCase):
    def test_written_out(self):
        # Sets of a tie's two places: none, the first, the second, both; by width and by spread alike.
        for look in (shows_width, shows_spread):
            for many, table, so in [
                (1, (0, 1, 1, 1), True), (0, (0, 1, 1, 1), True), (-5, (0, 1, 1, 1), True), (2, (0, 1, 1, 1), False), (0, (0, 0, 0, 0), True),
                (1, (0, 0, 0, 0), False), (1, (0, 1, 0, 0), False), (0, (0, 1, 0, 0), True), (1, (0, 1, 0, 1), False), (1, (0, 0, 1, 1), False),
                (0, (-7, 1, 1, 1), True), (1, (-7, 1, 1, 1), True), (0, (1, 1, 1, 1), False), (0, (0, 2, 1, 1), False), (0, (0, 1, 2, 1), False),
                (0, (0, 1, 1, 2), False), (-9, (-9, -9, -9, -9), True), (-8, (-9, -9, -9, -9), False), (-9, (-9, 1, -9, 0), True),
                (-9, (-9, -9, -9, 1), False), (-9, (-9, -9, -9, 0), True),
            ]:
                self.assertIs(asked(self, look, full(2), many, table), so, (many, table))

    def test_the_web_without_places(self):
        for look in (shows_width, shows_spread):
            for many, table, so in [(0, (0,), True), (1, (0,), False), (-1, (0,), True), (0, (1,), False), (1, (1,), False), (0, (-1,), False),
                                    (-1, (-1,), True), (-10 ** 30, (-10 ** 30,), True), (0, (), False), (0, (0, 0), False), (0, [0], False),
                                    (0, (False,), False), (0, 0, False), (0, None, False)]:
                self.assertIs(asked(self, look, NOTHING, many, table), so)
            for many, table, so in [(0, (0, 0), True), (1, (0, 0), False), (0, (0, 1), False), (0, (1, 0), False), (0, (-3, 0), True),
                                    (-3, (-3, -3), True), (0, (-3, 1), False), (0, (0,), False), (0, (0, 0, 0), False)]:
                self.assertIs(asked(self, look, ONE, many, table), so)

    def test_the_told_tables(self):
        for web, *numbers in KNOWN:
            for number, (look, table_of, *_) in zip(numbers, MEASURES):
                table = table_of(web)
                for many, so in [(number, True), (number - 1, True), (0, True), (-1, True), (-10 ** 30, True), (number + 1, False), (99, False)]:
                    self.assertIs(look(web, many, table), so)

    def test_one_greater_anywhere(self):
        for web in [NOTHING, ONE, full(2), ring(5), holed(grid(2, 3)), star(4), spider(), TREE, grid(3, 3)]:
            for look, table_of, *_ in MEASURES:
                table = table_of(web)
                for at in range(0, len(table), 1 if len(table) < 100 else 23):
                    for more in (1, 2, 10 ** 30):
                        self.assertIs(look(web, 0, put(table, at, table[at] + more)), False)

    def test_lessened_anywhere(self):
        seen = {True: 0, False: 0}
        for web in [ONE, full(2), row(3), ring(4), holed(both(2, 3)), spider()]:
            for look, table_of, number_of, cost, _ in MEASURES:
                table, number = table_of(web), number_of(web)[0]
                for at in range(0, len(table), 1 if len(table) < 100 else 7):
                    for less in (1, 2, 3, 10 ** 30):
                        lessened = put(table, at, table[at] - less)
                        for many in (number, number - 1, -10 ** 40):
                            so = plain_shows(web, many, lessened, cost)
                            self.assertIs(look(web, many, lessened), so)
                            seen[so] += 1
        self.assertGreater(min(seen.values()), 100)

    def test_all_lessened(self):
        for web in [ring(5), CUBE, holed(grid(3, 3))]:
            for look, table_of, number_of, *_ in MEASURES:
                table, number = table_of(web), number_of(web)[0]
                for most in (0, 1, number):
                    lessened = tuple(min(one, most) for one in table)
                    self.assertIs(look(web, min(most, number), lessened), True)
                    self.assertIs(look(web, min(most, number) + 1, lessened), False)
                far = (-10 ** 30,) * len(table)
                self.assertIs(look(web, -10 ** 30, far), True)
                self.assertIs(look(web, 0, far), False)

    def test_of_another_measure_or_web(self):
        self.assertIs(shows_spread(CUBE, 4, spread_table(CUBE)), True)
        self.assertIs(shows_width(CUBE, 4, spread_table(CUBE)), False)
        for look, table_of, *_ in MEASURES:
            self.assertIs(look(row(5), 2, table_of(ring(5))), False)
            self.assertIs(look(ring(5), 2, table_of(ring(4))), False)
            self.assertIs(look(ring(4), 2, table_of(ring(5))), False)
            # By its names alone another web: the same numbers.
            self.assertIs(look(called(ring(5), (3, 8, 9, 50, 99)), 2, table_of(ring(5))), True)


class Wrong(unittest.TestCase):
    def test_too_few_and_too_many(self):
        for web, number, _ in KNOWN:
            for look, table_of, *_ in MEASURES:
                table = table_of(web)
                for wrong in [table[:-1], table[1:], table + (0,), table + table, (0,) + table, (), (table,), table + ((),), table * 2]:
                    self.assertIs(look(web, 0, wrong), False)

    def test_kinds_of_values(self):
        for web in [ONE, full(2), ring(4), grid(2, 3)]:
            for look, table_of, *_ in MEASURES:
                table = table_of(web)
                self.assertIs(look(web, 0, table), True)
                for wrong in [list(table), set(table), dict(enumerate(table)), str(table), bytes(table), range(len(table))]:
                    self.assertIs(look(web, 0, wrong), False)
                for at in range(len(table)):
                    for wrong in (bool(table[at]), True, False, None, str(table[at]), (table[at],), [table[at]], b"0"):
                        self.assertIs(look(web, -9, put(table, at, wrong)), False)

    def test_of_anything(self):
        for look, _, _, cost, _ in MEASURES:
            for thing in odd_things() + [nested(lambda x: (0, x), 0), nested(lambda x: [x], 0), (0, 0, 0, Prickly()), [Prickly()]]:
                for wrong in [thing, (thing,), (0, 1, 1, thing), (thing,) * 4, (0, thing, 0, 0), (0, 1, 1, 1, thing)]:
                    numbers = type(wrong) is tuple and all(type(part) is int for part in wrong)
                    for web in (NOTHING, full(2)):
                        so = numbers and plain_shows(web, -10 ** 50, wrong, cost)
                        self.assertIs(look(web, -10 ** 50, wrong), so, wrong)


class Whole(unittest.TestCase):
    def test_no_order_has_less(self):
        """Whatever table is taken for a number, no order has less; random tables, mostly near the greatest."""
        rng = random.Random(12)
        taken = 0
        webs = [(tuple(range(many)), ties) for size in range(6) for many, ties in sorted(all_forms(size))]
        for web in webs:
            for look, table_of, number_of, cost, measure in MEASURES:
                for _ in range(12):
                    table = tuple(one + rng.choice((0, 0, 0, 0, 0, 0, 0, 0, -1, 1)) for one in table_of(web))
                    for many in (table[-1], 0):
                        so = look(web, many, table)
                        self.assertIs(so, plain_shows(web, many, table, cost))
                        if so:
                            taken += 1
                            self.assertGreaterEqual(least(web, measure), many)
        self.assertGreater(taken, 50)

    def test_the_greatest_of_all_tables(self):
        # All tables of small webs with numbers from -1 to 3.
        for web in [NOTHING, ONE, full(2), ((3, 5), ())]:
            for look, table_of, number_of, cost, _ in MEASURES:
                most = -9
                for table in itertools.product(range(-1, 3), repeat=2 ** len(web[0])):
                    so = look(web, -1, table)
                    self.assertIs(so, plain_shows(web, -1, table, cost))
                    most = max(most, table[-1]) if so else most
                self.assertEqual(most, number_of(web)[0])


if __name__ == "__main__":
    unittest.main()
