import itertools
import random
import unittest

from samples import Prickly, all_webs, asked, called, holed, nested, odd_things, refused, some_rows
from drawnweb.deeds import deeds, done, is_deed, lots_behind, played
from drawnweb.errors import NoDeed
from drawnweb.made import beside, both, full, grid, ring, row, star
from drawnweb.webs import is_web

NOTHING = ((), ())
HOLED = ((0, 7, 40, 98, 99), ((0, 40), (0, 99), (7, 98), (40, 99)))
GREAT = beside(grid(4, 5), full(4))


def plain_done(web, deed):
    """The web behind a deed, by sets of pairs."""
    places, ties = set(web[0]), {frozenset(tie) for tie in web[1]}
    if deed[0] == "cut":
        ties.remove(frozenset(deed[1:]))
    elif deed[0] == "drop":
        places.remove(deed[1])
        ties = {tie for tie in ties if deed[1] not in tie}
    else:
        a, b = deed[1:]
        places.remove(b)
        ties = {frozenset(a if end == b else end for end in tie) for tie in ties} - {frozenset([a])}
    return (tuple(sorted(places)), tuple(sorted(tuple(sorted(tie)) for tie in ties)))


def plain_lots(web, deeds_done):
    """The lots by which place of the web behind each place ahead was drawn to, by following it."""
    lots = {}
    for start in web[0]:
        at = start
        for deed in deeds_done:
            if deed[0] == "draw" and deed[2] == at:
                at = deed[1]
            elif deed == ("drop", at):
                at = None
        if at is not None:
            lots.setdefault(at, []).append(start)
    return tuple((place, tuple(lots[place])) for place in sorted(lots))


def plain_deeds(web):
    return [(word,) + tie for word in ("cut", "draw") for tie in web[1]] + [("drop", place) for place in web[0]]


class Deeds(unittest.TestCase):
    def test_all_deeds(self):
        self.assertEqual(asked(self, deeds, NOTHING), ())
        self.assertEqual(asked(self, deeds, ((42,), ())), (("drop", 42),))
        self.assertEqual(asked(self, deeds, ((3, 8), ())), (("drop", 3), ("drop", 8)))
        self.assertEqual(asked(self, deeds, full(3)), (
            ("cut", 0, 1), ("cut", 0, 2), ("cut", 1, 2), ("draw", 0, 1), ("draw", 0, 2), ("draw", 1, 2),
            ("drop", 0), ("drop", 1), ("drop", 2)))
        self.assertEqual(len(asked(self, deeds, GREAT)), 2 * len(GREAT[1]) + len(GREAT[0]))

    def test_they_rise_and_are_all(self):
        for web in list(map(holed, all_webs(4))) + [HOLED, GREAT, full(11)]:
            told = deeds(web)
            self.assertEqual(told, tuple(sorted(set(plain_deeds(web)))))
            for deed in told:
                self.assertIs(is_deed(web, deed), True)

    def test_is_deed_among_all_that_look_so(self):
        for web in [NOTHING, ((1,), ()), full(3), row(3), HOLED]:
            names = sorted(set(web[0]) | {-1, 0, 1, 2, 3, 100})
            right = plain_deeds(web)
            for word in ("cut", "draw", "drop", "Cut", "draws", "", "done"):
                for many in range(4):
                    for rest in itertools.product(names, repeat=many):
                        self.assertIs(is_deed(web, (word,) + rest), (word,) + rest in right)

    def test_almost_deeds(self):
        for thing in [
            ["cut", 0, 1], ["drop", 0], ("cut", [0, 1]), ("cut", (0, 1)), ("cut", 1, 0), ("draw", 1, 0), ("draw", 2, 1),
            ("cut", False, 1), ("cut", 0, True), ("draw", False, True), ("drop", False), ("drop", True), ("cut", 0, 2),
            ("draw", 0, 2), ("cut", 0, 0), ("draw", 1, 1), ("drop", 3), ("drop", -1), ("drop", 0, 1), ("drop", 0, 0),
            ("drop",), ("cut",), ("draw",), ("cut", 0), ("draw", 0), ("cut", 0, 1, 2), ("draw", 0, 1, 1), ("cut", "0", "1"),
            ("drop", "0"), ("drop", None), ("cut", None, None), (b"cut", 0, 1), (b"drop", 0), ("drop", (0,)), ("drop", [0]),
            "cut 0 1", "drop 0", "drop", {"drop": 0}, {"cut": (0, 1)}, (0, "drop"), (0, 1), (None, 0, 1), (True, 0, 1), (),
            (("cut", 0, 1),), (("drop", 0),), ("drop", 10 ** 30), ("cut", 0, 10 ** 30), ("cut", "", ""), ("drop", ()),
            (("drop",), 0), ("drop\n", 0), ("drop ", 0), ("DROP", 0),
        ]:
            self.assertIs(is_deed(row(3), thing), False, thing)
            self.assertEqual(refused(self, NoDeed, done, row(3), thing).number, 0)

    def test_of_anything(self):
        for thing in odd_things():
            one = type(thing) is int and thing == 1
            zero = type(thing) is int and thing == 0
            for wrong, so in [
                (thing, False), ((thing,), False), ((thing, 0), False), ((thing, 0, 1), False), (("cut", thing), False),
                (("drop", thing), zero or one), (("cut", 0, thing), one), (("draw", thing, 2), one), (("drop", 0, thing), False),
                (("cut", 0, 1, thing), False), (("draw", thing, thing), False),
            ]:
                self.assertIs(is_deed(row(3), wrong), so)
                if not so:
                    self.assertEqual(refused(self, NoDeed, done, row(3), wrong).number, 0)
                    self.assertEqual(refused(self, NoDeed, played, row(3), (("drop", 2), wrong)).number, 1)
                    self.assertEqual(refused(self, NoDeed, lots_behind, row(3), (("drop", 2), wrong)).number, 1)

    def test_forty_deep(self):
        for wrap in (lambda x: (x,), lambda x: [x], lambda x: ("drop", x), lambda x: ("cut", x, x), lambda x: {0: x},
                     lambda x: ("cut", 0, x), lambda x: (x, 0, 1)):
            for core in (0, (), ("drop", 0), Prickly()):
                self.assertIs(is_deed(row(3), nested(wrap, core)), False)
                self.assertEqual(refused(self, NoDeed, done, row(3), nested(wrap, core)).number, 0)


class Done(unittest.TestCase):
    def test_cut(self):
        self.assertEqual(asked(self, done, full(2), ("cut", 0, 1)), ((0, 1), ()))
        self.assertEqual(asked(self, done, full(3), ("cut", 0, 2)), row(3))
        self.assertEqual(asked(self, done, HOLED, ("cut", 0, 99)), (HOLED[0], ((0, 40), (7, 98), (40, 99))))

    def test_drop(self):
        self.assertEqual(asked(self, done, ((9,), ()), ("drop", 9)), NOTHING)
        self.assertEqual(asked(self, done, row(3), ("drop", 1)), ((0, 2), ()))
        self.assertEqual(asked(self, done, star(4), ("drop", 3)), ((0, 1, 2, 4), ((0, 1), (0, 2), (0, 4))))
        self.assertEqual(asked(self, done, HOLED, ("drop", 40)), ((0, 7, 98, 99), ((0, 99), (7, 98))))

    def test_draw(self):
        self.assertEqual(asked(self, done, full(2), ("draw", 0, 1)), ((0,), ()))
        self.assertEqual(asked(self, done, row(3), ("draw", 0, 1)), ((0, 2), ((0, 2),)))
        self.assertEqual(asked(self, done, row(3), ("draw", 1, 2)), ((0, 1), ((0, 1),)))

    def test_draw_with_a_third_place_tied_to_both(self):
        self.assertEqual(asked(self, done, full(3), ("draw", 0, 1)), ((0, 2), ((0, 2),)))
        self.assertEqual(asked(self, done, full(4), ("draw", 1, 3)), full(3))

    def test_draw_where_b_is_below_others(self):
        # A tie of b to a place between a and b is turned about.
        web = ((0, 1, 2, 5, 9), ((0, 1), (1, 2), (1, 5), (1, 9)))
        self.assertEqual(asked(self, done, web, ("draw", 0, 1)), ((0, 2, 5, 9), ((0, 2), (0, 5), (0, 9))))
        web = ((2, 3, 4, 5, 9), ((2, 5), (3, 5), (4, 5), (5, 9)))
        self.assertEqual(asked(self, done, web, ("draw", 2, 5)), ((2, 3, 4, 9), ((2, 3), (2, 4), (2, 9))))
        self.assertEqual(asked(self, done, web, ("draw", 4, 5)), ((2, 3, 4, 9), ((2, 4), (3, 4), (4, 9))))

    def test_against_the_words(self):
        for web in list(all_webs(4)) + list(map(holed, all_webs(4))) + [HOLED, GREAT, full(11), both(3, 20), ring(24)]:
            for deed in deeds(web):
                told = done(web, deed)
                self.assertEqual(told, plain_done(web, deed))
                self.assertIs(is_web(told), True)


class Played(unittest.TestCase):
    def test_the_empty_row(self):
        for web in (NOTHING, row(3), GREAT):
            self.assertEqual(asked(self, played, web, ()), web)

    def test_each_of_the_web_ahead_of_it(self):
        told = asked(self, played, ring(4), (("draw", 0, 1), ("cut", 0, 2), ("drop", 3)))
        self.assertEqual(told, ((0, 2), ()))
        # A tie that a draw made may be cut, one that went with it may not.
        self.assertEqual(played(row(3), (("draw", 0, 1), ("cut", 0, 2))), ((0, 2), ()))
        self.assertEqual(refused(self, NoDeed, played, row(3), (("draw", 0, 1), ("cut", 1, 2))).number, 1)

    def test_the_first_that_is_none(self):
        three = (("cut", 0, 1), ("drop", 3), ("cut", 0, 1))
        self.assertEqual(refused(self, NoDeed, played, ring(4), three).number, 2)
        self.assertEqual(refused(self, NoDeed, played, ring(4), three + (("drop", 77), ("drop", 0))).number, 2)
        self.assertEqual(refused(self, NoDeed, played, ring(4), (None,) + three).number, 0)
        self.assertEqual(refused(self, NoDeed, played, NOTHING, (("drop", 0),)).number, 0)
        self.assertEqual(refused(self, NoDeed, played, ((5,), ()), (("drop", 5), ("drop", 5))).number, 1)

    def test_sixty_deeds(self):
        web = both(4, 15)
        every = tuple(("cut",) + tie for tie in web[1])
        self.assertEqual(len(every), 60)
        self.assertEqual(asked(self, played, web, every), (web[0], ()))
        self.assertEqual(refused(self, NoDeed, played, web, every[:59] + (("cut", 1, 0),)).number, 59)
        many = tuple(("draw", 0, k) for k in range(1, 24))
        self.assertEqual(asked(self, played, row(24), many), ((0,), ()))

    def test_random_rows(self):
        rng = random.Random(6)
        for web in [ring(6), grid(3, 3), GREAT, holed(both(3, 5)), full(11)]:
            for row_done, now in itertools.islice(some_rows(rng, web, 60, deeds, done), 15):
                plain = web
                for deed in row_done:
                    plain = plain_done(plain, deed)
                self.assertEqual(played(web, row_done), plain)
                self.assertEqual(now, plain)
                wrong = rng.randrange(len(row_done))
                spoilt = row_done[:wrong] + (rng.choice([None, ("drop", 100), ["drop", 0], ("draw", 1, 0)]),) + row_done[wrong:]
                self.assertEqual(refused(self, NoDeed, played, web, spoilt).number, wrong)
                self.assertEqual(refused(self, NoDeed, lots_behind, web, spoilt).number, wrong)

    def test_draws_and_drops_are_the_places_fewer(self):
        rng = random.Random(3)
        for web in [ring(6), grid(3, 3), full(5)]:
            for row_done, now in itertools.islice(some_rows(rng, web, 9, deeds, done), 20):
                fewer = len([deed for deed in row_done if deed[0] != "cut"])
                self.assertEqual(len(web[0]) - len(now[0]), fewer)


class LotsBehind(unittest.TestCase):
    def test_no_deeds(self):
        self.assertEqual(asked(self, lots_behind, NOTHING, ()), ())
        self.assertEqual(asked(self, lots_behind, HOLED, ()), tuple((place, (place,)) for place in HOLED[0]))

    def test_draws_one_behind_another(self):
        to_one = (("draw", 0, 1), ("draw", 0, 2), ("draw", 0, 3))
        self.assertEqual(asked(self, lots_behind, row(5), to_one), ((0, (0, 1, 2, 3)), (4, (4,))))
        drawn_on = (("draw", 3, 4), ("draw", 2, 3), ("draw", 1, 2))
        self.assertEqual(asked(self, lots_behind, row(5), drawn_on), ((0, (0,)), (1, (1, 2, 3, 4))))
        across = (("draw", 0, 3), ("draw", 1, 2), ("draw", 0, 1))
        self.assertEqual(asked(self, lots_behind, ring(4), across), ((0, (0, 1, 2, 3)),))

    def test_drops_and_cuts_between(self):
        dropped = (("draw", 0, 1), ("drop", 0))
        self.assertEqual(asked(self, lots_behind, row(4), dropped), ((2, (2,)), (3, (3,))))
        self.assertEqual(asked(self, lots_behind, row(4), dropped + (("draw", 2, 3),)), ((2, (2, 3)),))
        cut = (("cut", 1, 2), ("draw", 0, 1), ("cut", 2, 3))
        self.assertEqual(asked(self, lots_behind, row(4), cut), ((0, (0, 1)), (2, (2,)), (3, (3,))))
        self.assertEqual(asked(self, lots_behind, ((5,), ()), (("drop", 5),)), ())

    def test_refused_as_played(self):
        self.assertEqual(refused(self, NoDeed, lots_behind, row(4), (("draw", 0, 1), ("draw", 1, 2))).number, 1)
        self.assertEqual(refused(self, NoDeed, lots_behind, row(4), (("draw", 1, 0),)).number, 0)

    def test_random_rows(self):
        rng = random.Random(7)
        for web in [ring(6), grid(3, 3), GREAT, holed(both(3, 5)), called(row(7), (9, 2, 55, 0, 41, 3, 8))]:
            for row_done, now in itertools.islice(some_rows(rng, web, rng.choice([5, 20]), deeds, done), 25):
                told = asked(self, lots_behind, web, row_done)
                self.assertEqual(told, plain_lots(web, row_done))
                self.assertEqual(tuple(place for place, _ in told), now[0])
                for place, lot in told:
                    self.assertEqual(lot[0], place)


if __name__ == "__main__":
    unittest.main()
