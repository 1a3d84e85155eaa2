import itertools
import random
import unittest

from samples import Prickly, all_forms, all_webs, asked, called, holed, nested, odd_things
from drawnweb.deeds import deeds, done, lots_behind, played
from drawnweb.drawings import drawing_of, extra, row_of, shows_drawn
from drawnweb.made import beside, both, diamond, full, grid, ring, row, star

NOTHING = ((), ())
GREAT = beside(grid(4, 5), full(4))


def tied(web, a, b):
    return (min(a, b), max(a, b)) in web[1]


def hang(web, lot):
    if not lot:
        return False
    met = {min(lot)}
    while True:
        more = {b for a in met for b in lot if tied(web, a, b)} - met
        if not more:
            return met == set(lot)
        met |= more


def plain_drawing(web, told, lots):
    """The drawing with the least ties, by trying each tie."""
    if not all(hang(web, lot) for lot in lots) or any(set(one) & set(other) for one, other in itertools.combinations(lots, 2)):
        return None
    lot_of = dict(zip(told[0], lots))
    ties = []
    for h, k in told[1]:
        here = sorted(tuple(sorted((a, b))) for a in lot_of[h] for b in lot_of[k] if tied(web, a, b))
        if not here:
            return None
        ties.append(here[0])
    return (tuple(lots), tuple(ties))


def plain_extra(web, told, lots):
    lot_of = dict(zip(told[0], lots))
    return tuple((h, k) for h, k in itertools.combinations(told[0], 2) if (h, k) not in told[1]
                 and any(tied(web, a, b) for a in lot_of[h] for b in lot_of[k]))


def all_lots(web, many):
    """Each way to give the web's places to so many lots or to none."""
    for owners in itertools.product(range(many + 1), repeat=len(web[0])):
        yield tuple(tuple(place for place, owner in zip(web[0], owners) if owner == at) for at in range(many))


def all_drawings(web, told):
    """A drawing for each lots that have one."""
    for lots in all_lots(web, len(told[0])):
        drawing = plain_drawing(web, told, lots)
        if drawing is not None:
            yield drawing


# A web, a told web, and a drawing of it.
SAMPLES = [
    (row(3), row(3), (((0,), (1,), (2,)), ((0, 1), (1, 2)))),
    (ring(5), full(3), (((0, 1), (2,), (3, 4)), ((1, 2), (0, 4), (2, 3)))),
    (grid(3, 3), full(3), (((0, 1, 2), (4, 5), (3, 6, 7)), ((1, 4), (0, 3), (3, 4)))),
    (called(ring(5), (90, 3, 41, 40, 7)), ((2, 50, 99), ((2, 50), (2, 99), (50, 99))),
     (((3, 90), (41,), (7, 40)), ((3, 41), (7, 90), (40, 41)))),
    (star(4), star(2), (((0, 3), (2,), (4,)), ((0, 2), (0, 4)))),
    (GREAT, beside(ring(4), full(2)), (((0, 1), (2, 3, 7), (6, 10), (4, 5, 9), (20, 21), (23,)),
                                       ((1, 2), (0, 4), (2, 6), (5, 6), (20, 23)))),
]


class ShowsDrawn(unittest.TestCase):
    def test_drawings(self):
        for web, told, drawing in SAMPLES:
            self.assertIs(asked(self, shows_drawn, web, told, drawing), True)

    def test_told_webs_without_places_and_without_ties(self):
        for web in (NOTHING, row(3), GREAT):
            self.assertIs(asked(self, shows_drawn, web, NOTHING, ((), ())), True)
            for wrong in [(((),), ()), ((), ((),)), (((0,),), ()), ((), ((0, 1),)), (), ((),), ((), (), ())]:
                self.assertIs(shows_drawn(web, NOTHING, wrong), False)
        loose = ((4, 9), ())
        self.assertIs(asked(self, shows_drawn, row(3), loose, (((0,), (1, 2)), ())), True)
        self.assertIs(asked(self, shows_drawn, row(3), loose, (((2,), (0,)), ())), True)
        self.assertIs(asked(self, shows_drawn, row(3), loose, (((2,), (0,)), ((0, 1),))), False)
        self.assertIs(asked(self, shows_drawn, row(3), loose, (((0, 2), (1,)), ())), False)

    def test_any_tie_between_the_lots_will_do(self):
        lots = ((0, 1, 2), (3, 4, 5))
        for tie in [(0, 3), (1, 4), (2, 5)]:
            self.assertIs(asked(self, shows_drawn, grid(3, 3), full(2), (lots, (tie,))), True)
            self.assertIs(asked(self, shows_drawn, grid(3, 3), full(2), (lots[::-1], (tie,))), True)
        for tie in [(0, 1), (3, 4), (3, 6), (4, 7), (3, 0), (0, 4), (0, 5), (6, 7)]:
            self.assertIs(asked(self, shows_drawn, grid(3, 3), full(2), (lots, (tie,))), False)

    def test_one_thing_otherwise(self):
        web, told = ring(6), row(3)
        lots, ties = ((0, 1), (2, 3), (4,)), ((1, 2), (3, 4))
        self.assertIs(asked(self, shows_drawn, web, told, (lots, ties)), True)
        for wrong_lots in [
            ((2, 3), (0, 1), (4,)), ((0, 1), (4,), (2, 3)), ((0, 1), (1, 2, 3), (4,)), ((0, 1), (2, 3), (3, 4)),
            ((0, 1), (2, 3), (4,), ()), ((0, 1), (2, 3), ()), ((), (2, 3), (4,)), ((1, 0), (2, 3), (4,)), ((0, 1, 1), (2, 3), (4,)),
            ((0, 1), (3, 2), (4,)), ((1, 5), (2, 3), (4,)), ((0, 1), (2, 3), (4, 6)), ((0, 1), (2, 3), (4, -1)),
            ((0, 1), (2, 3)), ((0, 1), (2, 3), (4,), (5,)), ((0,), (2, 3), (4,)), ((0, 1), (2, 3, 5), (4,)),
            ([0, 1], (2, 3), (4,)), ((0, 1), (2, 3), [4]), [(0, 1), (2, 3), (4,)], ((0, True), (2, 3), (4,)),
            ((False, 1), (2, 3), (4,)), ((0, 1), (2, 3), 4), ((0, 1), (2, 3), "4"), ((0, 1), (2, 3), ("4",)),
            ((0, 1), (2, 3), None), ((0, 1), (2, 3), (None,)), ((0, 1), (2, 3), ((4,),)), (), None, 0,
        ]:
            self.assertIs(shows_drawn(web, told, (wrong_lots, ties)), False, wrong_lots)
        for wrong_ties in [
            ((2, 1), (3, 4)), ((1, 2), (4, 3)), ((3, 4), (1, 2)), ((0, 2), (3, 4)), ((1, 2), (2, 4)), ((1, 2),), ((3, 4),),
            ((1, 2), (3, 4), (4, 5)), ((1, 2), (3, 4), (3, 4)), (), ((1, 2), (1, 2)), ((0, 1), (3, 4)), ((1, 2), (4, 5)),
            ((1, 2), [3, 4]), [(1, 2), (3, 4)], ((True, 2), (3, 4)), ((1, 2), (3, 4, 5)), ((1, 2), (3,)), ((1, 2), ()),
            ((1, 2), None), ((1, 2), 34), ((1, 2), "34"), ((1, 2), ("3", "4")), ((1, 2), ((3,), (4,))), None, 0, "",
        ]:
            self.assertIs(shows_drawn(web, told, (lots, wrong_ties)), False, wrong_ties)
        for wrong in [[lots, ties], (ties, lots), (lots,), (lots, ties, ()), ((lots, ties),), lots, ties, (), None,
                      {"lots": lots, "ties": ties}]:
            self.assertIs(shows_drawn(web, told, wrong), False, wrong)

    def test_of_anything(self):
        for thing in odd_things():
            lots, ties = ((0,), (1,)), ((0, 1),)
            one = type(thing) is int and thing == 1
            for wrong, so in [
                (thing, False), ((thing, thing), False), ((lots, thing), False), ((thing, ties), False),
                ((lots, (thing,)), False), (((thing, (1,)), ties), False), ((((0,), (thing,)), ties), one),
                ((lots, ((0, thing),)), one), ((((0,), (1, thing)), ties), False), ((lots, ((0, 1, thing),)), False),
            ]:
                self.assertIs(shows_drawn(row(3), full(2), wrong), so)
        # Odd things, (((), ())) among them, for a told web that has a drawing of no parts.
        for thing in odd_things():
            self.assertIs(shows_drawn(row(3), NOTHING, (thing, ())), type(thing) is tuple and len(thing) == 0)
            self.assertIs(shows_drawn(row(3), NOTHING, ((), thing)), type(thing) is tuple and len(thing) == 0)

    def test_forty_deep(self):
        for wrap in (lambda x: (x,), lambda x: (x, x), lambda x: [x], lambda x: (x, ()), lambda x: ((x,), (x,))):
            for core in (0, (), SAMPLES[0][2], Prickly()):
                self.assertIs(shows_drawn(row(3), row(3), nested(wrap, core)), False)


class DrawingOf(unittest.TestCase):
    def test_the_least_ties(self):
        self.assertEqual(asked(self, drawing_of, grid(3, 3), full(2), ((0, 1, 2), (3, 4, 5))), (((0, 1, 2), (3, 4, 5)), ((0, 3),)))
        self.assertEqual(asked(self, drawing_of, grid(3, 3), full(2), ((3, 4, 5), (1, 2))), (((3, 4, 5), (1, 2)), ((1, 4),)))
        # The least tie is of the least end, whichever lot has it.
        self.assertEqual(asked(self, drawing_of, ring(5), full(2), ((0, 4), (1, 2, 3))), (((0, 4), (1, 2, 3)), ((0, 1),)))
        self.assertEqual(asked(self, drawing_of, ring(5), full(2), ((4,), (0, 1, 2, 3))), (((4,), (0, 1, 2, 3)), ((0, 4),)))
        for web, told, drawing in SAMPLES:
            self.assertEqual(asked(self, drawing_of, web, told, drawing[0]), drawing)

    def test_none(self):
        for lots in [
            ((), (1, 2)), ((0,), ()), ((), ()), ((0, 1), (1, 2)), ((1,), (1,)), ((0, 2), (1,)), ((0, 3), (1,)), ((0,), (2,)),
            ((0,), (3,)), ((0, 1), (3,)),
        ]:
            self.assertIsNone(asked(self, drawing_of, row(4), full(2), lots))
        self.assertIsNone(asked(self, drawing_of, ring(4), full(3), ((0,), (1,), (2,))))

    def test_without_places_and_without_ties(self):
        self.assertEqual(asked(self, drawing_of, NOTHING, NOTHING, ()), ((), ()))
        self.assertEqual(asked(self, drawing_of, GREAT, NOTHING, ()), ((), ()))
        self.assertEqual(asked(self, drawing_of, row(4), ((3, 8), ()), ((3,), (0, 1))), (((3,), (0, 1)), ()))
        self.assertIsNone(asked(self, drawing_of, row(4), ((3, 8), ()), ((3,), (0, 2))))
        self.assertIsNone(asked(self, drawing_of, row(4), ((3, 8), ()), ((3,), ())))

    def test_against_all_lots(self):
        tolds = [full(1), full(2), ((2, 7), ()), called(row(3), (9, 0, 4)), full(3)]
        for web in map(holed, all_webs(4)):
            for told in tolds:
                for lots in all_lots(web, len(told[0])):
                    drawing = drawing_of(web, told, lots)
                    self.assertEqual(drawing, plain_drawing(web, told, lots))
                    if drawing is not None:
                        self.assertIs(shows_drawn(web, told, drawing), True)

    def test_places_in_two_lots(self):
        somes = [some for size in range(4) for some in itertools.combinations(range(4), size)]
        for web in [ring(4), full(4), diamond(), star(3)]:
            for lots in itertools.product(somes, repeat=2):
                self.assertEqual(drawing_of(web, full(2), lots), plain_drawing(web, full(2), lots))


class Extra(unittest.TestCase):
    def test_none_and_each(self):
        self.assertEqual(asked(self, extra, row(3), row(3), ((0,), (1,), (2,))), ())
        self.assertEqual(asked(self, extra, full(3), full(3), ((0,), (1,), (2,))), ())
        self.assertEqual(asked(self, extra, full(4), ((1, 5, 8, 9), ()), ((0,), (3,), (2,), (1,))),
                         ((1, 5), (1, 8), (1, 9), (5, 8), (5, 9), (8, 9)))
        self.assertEqual(asked(self, extra, NOTHING, NOTHING, ()), ())
        self.assertEqual(asked(self, extra, GREAT, NOTHING, ()), ())

    def test_some(self):
        self.assertEqual(asked(self, extra, ring(5), row(3), ((0, 1), (2,), (3, 4))), ((0, 2),))
        self.assertEqual(asked(self, extra, ring(5), row(3), ((0,), (1, 2), (3,))), ())
        self.assertEqual(asked(self, extra, grid(3, 3), called(star(3), (50, 3, 99, 4)), ((1, 2), (0, 3), (4,), (5, 8))),
                         ((3, 4), (3, 99)))

    def test_against_all_drawings(self):
        for web in [ring(5), diamond(), holed(both(2, 3)), grid(2, 3)]:
            for told in [((2, 7), ()), called(row(3), (9, 0, 4)), ((1, 2, 3), ()), row(4)]:
                for drawing in all_drawings(web, told):
                    self.assertEqual(asked(self, extra, web, told, drawing[0]), plain_extra(web, told, drawing[0]))


class RowOf(unittest.TestCase):
    def look(self, web, told, drawing):
        """All that point 10 says of a row."""
        lots = drawing[0]
        told_row = row_of(web, told, drawing)
        now = web
        for deed in told_row:
            self.assertIn(deed, deeds(now))
            now = done(now, deed)
        name = {h: min(lot) for h, lot in zip(told[0], lots)}
        self.assertEqual(now, called(told, [name[h] for h in told[0]]))
        self.assertEqual(lots_behind(web, told_row), tuple(sorted((min(lot), lot) for lot in lots)))
        members = [place for lot in lots for place in lot]
        counts = {"drop": len(web[0]) - len(members), "draw": len(members) - len(told[0]), "cut": len(plain_extra(web, told, lots))}
        for word, many in counts.items():
            self.assertEqual(len([deed for deed in told_row if deed[0] == word]), many)
        self.assertEqual(len(told_row), sum(counts.values()))

    def test_samples(self):
        for web, told, drawing in SAMPLES:
            asked(self, row_of, web, told, drawing)
            self.look(web, told, drawing)

    def test_edges(self):
        self.assertEqual(asked(self, row_of, NOTHING, NOTHING, ((), ())), ())
        self.assertEqual(asked(self, row_of, ring(5), ring(5), drawing_of(ring(5), ring(5), tuple((k,) for k in range(5)))), ())
        self.look(GREAT, NOTHING, ((), ()))
        self.look(row(24), full(1), ((tuple(range(24)),), ()))
        self.look(called(row(6), (5, 9, 0, 7, 3, 1)), full(1), (((0, 1, 3, 5, 7, 9),), ()))
        self.look(full(6), ((4, 8, 9), ()), (((5,), (0, 3), (1,)), ()))
        # The told places are called by lots whose least places stand in another order.
        self.look(ring(6), row(3), (((4, 5), (2, 3), (0, 1)), ((3, 4), (1, 2))))

    def test_any_of_the_ties(self):
        lots = ((0, 1, 2), (3, 4, 5))
        for tie in [(0, 3), (1, 4), (2, 5)]:
            self.look(grid(3, 3), full(2), (lots, (tie,)))

    def test_all_drawings_in_small_webs(self):
        for web in [holed(ring(5)), diamond(), grid(2, 3), called(both(2, 3), (9, 2, 0, 7, 5)), full(4)]:
            for told in [full(1), full(2), ((2, 7), ()), called(row(3), (9, 0, 4)), full(3), row(4)]:
                for drawing in all_drawings(web, told):
                    self.look(web, told, drawing)

    def test_great_webs(self):
        rng = random.Random(10)
        for web in [grid(6, 4), GREAT, holed(grid(5, 4)), ring(24), both(3, 20)]:
            for _ in range(20):
                lots, ties = grown_lots(rng, web, rng.randrange(1, 7))
                drawing = drawing_of(web, (tuple(range(len(lots))), ties), lots)
                self.look(web, (tuple(range(len(lots))), ties), drawing)


def grown_lots(rng, web, many):
    """Lots that hang together, grown at random, and some of the pairs that are tied."""
    lots = [[place] for place in rng.sample(web[0], many)]
    for _ in range(rng.randrange(len(web[0]))):
        lot = rng.choice(lots)
        taken = [place for other in lots for place in other]
        near = [b for b in web[0] if b not in taken and any(tied(web, a, b) for a in lot)]
        if near:
            lot.append(rng.choice(near))
    lots = tuple(tuple(sorted(lot)) for lot in lots)
    pairs = plain_extra(web, (tuple(range(many)), ()), lots)
    return lots, tuple(sorted(rng.sample(pairs, rng.randrange(len(pairs) + 1))))


class DrawingsAndRows(unittest.TestCase):
    def test_each_row_is_a_drawing_of_the_web_behind(self):
        rng = random.Random(9)
        for web in [ring(6), grid(3, 3), GREAT]:
            for _ in range(20):
                now, told_row = web, ()
                for _ in range(rng.randrange(1, 8)):
                    deed = rng.choice(deeds(now))
                    now, told_row = done(now, deed), told_row + (deed,)
                lots = tuple(lot for _, lot in lots_behind(web, told_row))
                drawing = drawing_of(web, now, lots)
                self.assertIs(shows_drawn(web, now, drawing), True)
                # No row to this web by these lots has fewer cuts than there are extra pairs.
                cuts = len([deed for deed in told_row if deed[0] == "cut"])
                self.assertLessEqual(len(extra(web, now, lots)), cuts)
                self.assertEqual(played(web, row_of(web, now, drawing)), now)

    def test_just_what_is_held_is_drawn(self):
        # All webs that rows of deeds lead to from a small web are drawn in it, and no others.
        forms = [(tuple(range(many)), ties) for size in (1, 2, 3) for many, ties in sorted(all_forms(size))]
        for many, ties in sorted(all_forms(4)):
            web = (tuple(range(many)), ties)
            reached = {web}
            fresh = [web]
            while fresh:
                now = fresh.pop()
                more = {done(now, deed) for deed in deeds(now)} - reached
                reached |= more
                fresh += sorted(more)
            for told in forms:
                names = itertools.permutations(range(4), len(told[0]))
                led = any(called(told, new) in reached for new in names)
                drawn = any(shows_drawn(web, told, drawing_of(web, told, lots)) for lots in all_lots(web, len(told[0])))
                self.assertEqual(drawn, led)


if __name__ == "__main__":
    unittest.main()
