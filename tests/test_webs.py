import itertools
import unittest

from samples import Prickly, all_webs, asked, called, holed, nested, odd_things
from drawnweb.webs import hangs, is_web, near, pieces, way, within

NOTHING = ((), ())
ROW = ((0, 1, 2, 3), ((0, 1), (1, 2), (2, 3)))
HOLED = ((0, 7, 40, 98, 99), ((0, 40), (0, 99), (7, 98), (40, 99)))
# 24 places with 60 ties: each place tied to the next two, all around, and twelve more.
GREAT = (
    tuple(range(24)),
    tuple(sorted({tuple(sorted((k, (k + step) % 24))) for k in range(24) for step in (1, 2)}
                 | {(k, k + 12) for k in range(12)})),
)


def somes(web):
    return [some for size in range(len(web[0]) + 1) for some in itertools.combinations(web[0], size)]


def plain_ways(web, some, one, other):
    """All ways from one to the other through some, no place twice."""
    ways = []
    for size in range(len(some)):
        for path in itertools.permutations([place for place in some if place != one], size):
            path = (one,) + path
            if path[-1] == other and all(tuple(sorted(tie)) in web[1] for tie in zip(path, path[1:])):
                ways.append(path)
    return ways


class IsWeb(unittest.TestCase):
    def test_webs(self):
        every_place = tuple(range(100))
        for web in [NOTHING, ROW, HOLED, GREAT, ((0,), ()), ((99,), ()), ((0, 99), ((0, 99),)), ((5, 6), ()),
                    (every_place, ()), (every_place, tuple(itertools.combinations(every_place, 2)))]:
            self.assertIs(asked(self, is_web, web), True)
        self.assertEqual(len(GREAT[1]), 60)
        for web in all_webs(4):
            self.assertIs(is_web(web), True)
            self.assertIs(is_web(holed(web)), True)

    def test_almost_webs(self):
        places, ties = ROW
        for thing in [
            list(ROW), [places, ties], (list(places), ties), (places, list(ties)), (places, ([0, 1],)),
            (places, ((0, 1), [1, 2])), (places, ties, ()), (places,), (), (ties, places), (places, None), (None, ties),
            ((False, 1), ()), ((0, True), ()), ((0, 1), ((False, 1),)), ((0, 1), ((0, True),)), ((0, 1), ((False, True),)),
            ((True,), ()), ((-1, 0), ()), ((-1,), ()), ((100,), ()), ((0, 100), ((0, 100),)), ((99, 100), ()),
            ((1, 0), ()), ((0, 2, 1), ()), ((0, 0), ()), ((0, 1, 1), ()), (places, ((1, 2), (0, 1))),
            (places, ((0, 1), (0, 1))), (places, ((0, 2), (0, 1))), (places, ((1, 0),)), (places, ((0, 1), (2, 1))),
            (places, ((1, 1),)), (places, ((0, 4),)), ((0, 2), ((0, 1),)), ((0, 2), ((1, 2),)), ((), ((0, 1),)),
            (places, ((0,),)), (places, ((0, 1, 2),)), (places, ((),)), (places, (0, 1)), (places, (("0", "1"),)),
            (places, (None,)), (places, "01"), ("0123", ties), (set(places), ties), (places, set(ties)),
            (places, dict(ties)), ({k: k for k in places}, ties), (bytes(places), ties), (range(4), ties),
            ((0, "1"), ()), ((0, None), ()), ((None,), ()), (((0,),), ()), ((0, 10 ** 30), ()),
        ]:
            self.assertIs(is_web(thing), False, thing)

    def test_of_anything(self):
        for thing in odd_things():
            self.assertIs(is_web(thing), False)
            self.assertIs(is_web((thing, ())), thing_is_places(thing))
            self.assertIs(is_web(((0, 1), thing)), isinstance(thing, tuple) and len(thing) == 0)
            self.assertIs(is_web(((0, 1), (thing,))), False)
            self.assertIs(is_web(((0, 1), ((0, thing),))), thing_is_one(thing))

    def test_forty_deep(self):
        for wrap in (lambda x: (x,), lambda x: (x, x), lambda x: [x], lambda x: (x, ()), lambda x: ((0, 1), (x,))):
            for core in (0, (), NOTHING, Prickly()):
                self.assertIs(is_web(nested(wrap, core)), False)


def thing_is_places(thing):
    return isinstance(thing, tuple) and len(thing) == 0


def thing_is_one(thing):
    return type(thing) is int and thing == 1


class Near(unittest.TestCase):
    def test_near(self):
        self.assertEqual(asked(self, near, ROW, 1), (0, 2))
        self.assertEqual(asked(self, near, ROW, 3), (2,))
        self.assertEqual(asked(self, near, HOLED, 40), (0, 99))
        self.assertEqual(asked(self, near, HOLED, 99), (0, 40))
        self.assertEqual(asked(self, near, ((3, 4), ()), 3), ())
        self.assertEqual(asked(self, near, GREAT, 0), (1, 2, 12, 22, 23))
        self.assertEqual(asked(self, near, GREAT, 13), (1, 11, 12, 14, 15))

    def test_against_the_ties(self):
        for web in map(holed, all_webs(4)):
            for place in web[0]:
                plain = tuple(other for other in web[0] if tuple(sorted((place, other))) in web[1])
                self.assertEqual(near(web, place), plain)


class Within(unittest.TestCase):
    def test_within(self):
        self.assertEqual(asked(self, within, NOTHING, ()), NOTHING)
        self.assertEqual(asked(self, within, ROW, ()), NOTHING)
        self.assertEqual(asked(self, within, ROW, (2,)), ((2,), ()))
        self.assertEqual(asked(self, within, ROW, (0, 2)), ((0, 2), ()))
        self.assertEqual(asked(self, within, ROW, (0, 1, 3)), ((0, 1, 3), ((0, 1),)))
        self.assertEqual(asked(self, within, ROW, ROW[0]), ROW)
        self.assertEqual(asked(self, within, HOLED, (0, 7, 40, 99)), ((0, 7, 40, 99), ((0, 40), (0, 99), (40, 99))))
        self.assertEqual(asked(self, within, GREAT, GREAT[0]), GREAT)
        self.assertEqual(asked(self, within, GREAT, (0, 1, 12, 22)), ((0, 1, 12, 22), ((0, 1), (0, 12), (0, 22))))


class Pieces(unittest.TestCase):
    def test_pieces(self):
        self.assertEqual(asked(self, pieces, NOTHING, ()), ())
        self.assertEqual(asked(self, pieces, ROW, ()), ())
        self.assertEqual(asked(self, pieces, ROW, (2,)), ((2,),))
        self.assertEqual(asked(self, pieces, ROW, ROW[0]), (ROW[0],))
        self.assertEqual(asked(self, pieces, ROW, (0, 2, 3)), ((0,), (2, 3)))
        self.assertEqual(asked(self, pieces, ((1, 5, 9), ()), (1, 5, 9)), ((1,), (5,), (9,)))
        self.assertEqual(asked(self, pieces, HOLED, HOLED[0]), ((0, 40, 99), (7, 98)))
        self.assertEqual(asked(self, pieces, GREAT, GREAT[0]), (GREAT[0],))
        self.assertEqual(asked(self, pieces, GREAT, (0, 3, 6, 9, 12, 15)), ((0, 12), (3, 15), (6,), (9,)))
        row = (tuple(range(24)), tuple((k, k + 1) for k in range(23)))
        self.assertEqual(asked(self, pieces, row, row[0][::2]), tuple((k,) for k in range(0, 24, 2)))

    def test_hangs(self):
        self.assertIs(asked(self, hangs, NOTHING, ()), False)
        self.assertIs(asked(self, hangs, ROW, ()), False)
        self.assertIs(asked(self, hangs, ROW, (1,)), True)
        self.assertIs(asked(self, hangs, ROW, (1, 2, 3)), True)
        self.assertIs(asked(self, hangs, ROW, (0, 2, 3)), False)
        self.assertIs(asked(self, hangs, HOLED, HOLED[0]), False)
        self.assertIs(asked(self, hangs, HOLED, (0, 40, 99)), True)
        self.assertIs(asked(self, hangs, GREAT, GREAT[0]), True)
        self.assertIs(asked(self, hangs, ((1, 2), ()), (1, 2)), False)

    def test_against_all_ways(self):
        for web in map(holed, all_webs(4)):
            for some in somes(web):
                told = pieces(web, some)
                self.assertEqual(tuple(sorted(sum(told, ()))), some)
                self.assertEqual(told, tuple(sorted(tuple(sorted(piece)) for piece in told)))
                self.assertIs(hangs(web, some), len(told) == 1)
                for one, other in itertools.product(some, some):
                    together = any(one in piece and other in piece for piece in told)
                    self.assertEqual(together, plain_ways(web, some, one, other) != [])


class Way(unittest.TestCase):
    def test_ways(self):
        self.assertEqual(asked(self, way, ROW, (2,), 2, 2), (2,))
        self.assertEqual(asked(self, way, ROW, ROW[0], 1, 1), (1,))
        self.assertEqual(asked(self, way, ROW, ROW[0], 0, 3), (0, 1, 2, 3))
        self.assertEqual(asked(self, way, ROW, ROW[0], 3, 1), (3, 2, 1))
        self.assertIsNone(asked(self, way, ROW, (0, 2, 3), 0, 3))
        self.assertIsNone(asked(self, way, HOLED, HOLED[0], 7, 40))
        self.assertEqual(asked(self, way, HOLED, HOLED[0], 99, 40), (99, 40))
        self.assertIsNone(asked(self, way, ((1, 2), ()), (1, 2), 1, 2))

    def test_least_of_the_shortest(self):
        square = ((0, 1, 2, 3), ((0, 1), (0, 2), (1, 3), (2, 3)))
        self.assertEqual(asked(self, way, square, square[0], 0, 3), (0, 1, 3))
        self.assertEqual(asked(self, way, square, (0, 2, 3), 0, 3), (0, 2, 3))
        self.assertEqual(asked(self, way, square, square[0], 2, 1), (2, 0, 1))
        # Of two shortest ones the tuple decides from its front, though the other has the lesser place behind.
        forked = called(((0, 1, 2, 3, 4, 5), ((0, 2), (0, 3), (1, 3), (1, 5), (2, 4), (4, 5))), range(6))
        self.assertEqual(asked(self, way, forked, forked[0], 0, 5), (0, 2, 4, 5))
        # A longer one with lesser places is not told.
        longer = ((0, 1, 2, 9), ((0, 1), (0, 9), (1, 2), (2, 9)))
        self.assertEqual(asked(self, way, longer, longer[0], 0, 9), (0, 9))
        self.assertEqual(asked(self, way, GREAT, GREAT[0], 0, 17), (0, 1, 3, 5, 17))

    def test_against_all_ways(self):
        webs = list(map(holed, all_webs(4))) + [web for web in all_webs(5) if len(web[1]) in (5, 6)]
        for web in webs:
            for one, other in itertools.product(web[0], web[0]):
                ways = plain_ways(web, web[0], one, other)
                least = min(ways, key=lambda path: (len(path), path)) if ways else None
                self.assertEqual(way(web, web[0], one, other), least)
        for web in all_webs(4):
            for some in somes(web):
                for one, other in itertools.product(some, some):
                    ways = plain_ways(web, some, one, other)
                    least = min(ways, key=lambda path: (len(path), path)) if ways else None
                    self.assertEqual(way(web, some, one, other), least)


if __name__ == "__main__":
    unittest.main()
