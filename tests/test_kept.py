import copy
import random
import unittest

from plainbooks import drawn_by
from samples import Prickly, asked, called, holed, nested, odd_things, refused
from drawnweb.deeds import deeds, done, played
from drawnweb.drawings import drawing_of, shows_drawn
from drawnweb.errors import NoBack, NoDeed
from drawnweb.kept import Kept, lots_left
from drawnweb.keptlooks import shows_kept
from drawnweb.made import beside, both, diamond, full, grid, ring, row, spider, star
from drawnweb.seeking import sought
from drawnweb.verdicts import verdict

NOTHING = ((), ())


def loose(many):
    return (tuple(range(many)), ())


def plain_lots(lots, deed):
    """The lots behind a deed, by the words of point 22."""
    lots = [set(lot) for lot in lots]
    for at, lot in enumerate(lots):
        if deed[0] == "drop":
            lot.discard(deed[1])
        if deed[0] == "draw" and deed[2] in lot:
            lot.remove(deed[2])
            lot.add(deed[1])
        if deed[0] == "draw" and any(deed[1] in earlier for earlier in lots[:at]):
            lot.discard(deed[1])
    return tuple(tuple(sorted(lot)) for lot in lots)


class PlainKept:
    """What is kept, by the words of points 22 and 23; what is barred has its web and row apart."""

    def __init__(self, web, tolds, most):
        self.tolds, self.most, self.many = tolds, most, 0
        self.states = [(web, [self.seek(web, told) for told in tolds])]

    def seek(self, web, told):
        self.many += 1
        word, found = verdict(web, told, self.most)
        return (word, found[0] if word == "drawn" else (web, ()) if word == "barred" else None)

    def behind(self, web, told, state, deed):
        word, thing = state
        if word == "barred":
            return (word, (thing[0], thing[1] + (deed,)))
        if word == "drawn":
            lots = plain_lots(thing, deed)
            if all(lots) and drawn_by(web, told, {h: set(lot) for h, lot in zip(told[0], lots)}):
                return (word, lots)
        return self.seek(web, told)

    def do(self, deed):
        web, known = self.states[-1]
        web = done(web, deed)
        self.states.append((web, [self.behind(web, told, state, deed) for told, state in zip(self.tolds, known)]))

    def back(self):
        self.states.pop()


class Keeping(unittest.TestCase):
    def same(self, kept, plain):
        """Whether all that is kept is as the words say."""
        web, known = plain.states[-1]
        self.assertEqual(asked(self, kept.web), web)
        self.assertEqual(asked(self, kept.words), tuple(word for word, _ in known))
        self.assertEqual(asked(self, kept.searches), plain.many)
        for k, (told, (word, thing)) in enumerate(zip(plain.tolds, known)):
            paper = asked(self, kept.paper, k)
            if word == "drawn":
                self.assertEqual(paper, drawing_of(web, told, thing))
                self.assertIs(shows_drawn(web, told, paper), True)
            elif word == "open":
                self.assertIsNone(paper)
            else:
                self.assertEqual(paper[:2], thing)
                self.assertEqual(played(*paper[:2]), web)
                self.assertIs(shows_kept(web, told, paper), True)

    def kept(self, web, tolds, most):
        """A Kept, what it was made of not being changed by it."""
        before = copy.deepcopy((web, tolds))
        kept = Kept(web, tolds, most)
        self.assertEqual((web, tolds), before)
        self.same(kept, PlainKept(web, tolds, most))
        return kept


class Deeds(Keeping):
    """One told web that is drawn: behind a deed it stays so by its lots, or is sought."""

    def stays(self, web, told, deed, lots, ahead=None):
        kept = self.kept(web, (told,), 2000)
        if ahead is not None:
            self.assertEqual(kept.paper(0)[0], ahead)
        self.assertIsNone(kept.do(deed))
        self.assertEqual((kept.words(), kept.searches()), (("drawn",), 1))
        self.assertEqual(kept.paper(0), drawing_of(done(web, deed), told, lots))
        self.assertEqual(kept.paper(0)[0], lots)

    def is_sought(self, web, told, deed, word, ahead=None):
        kept = self.kept(web, (told,), 2000)
        if ahead is not None:
            self.assertEqual(kept.paper(0)[0], ahead)
        self.assertEqual(kept.words(), ("drawn",))
        kept.do(deed)
        self.assertEqual((kept.words(), kept.searches()), ((word,), 2))
        anew = verdict(done(web, deed), told, 2000)
        self.assertEqual(anew[0], word)
        self.assertEqual(kept.paper(0), anew[1] if word != "barred" else (done(web, deed), (), anew[1]))

    def test_a_drop(self):
        # The lots of a row of four for one tie: the first three places, the last one.
        self.stays(row(4), full(2), ("drop", 0), ((1, 2), (3,)), ((0, 1, 2), (3,)))
        self.stays(row(4), full(2), ("drop", 0), ((1, 2), (3,)))
        self.is_sought(row(4), full(2), ("drop", 1), "drawn")
        self.is_sought(row(4), full(2), ("drop", 2), "drawn")
        self.is_sought(row(4), full(2), ("drop", 3), "drawn")
        self.is_sought(full(3), full(3), ("drop", 1), "barred", ((0,), (1,), (2,)))
        # Places in no lot.
        self.stays(loose(3), full(1), ("drop", 2), ((0,),), ((0,),))
        self.stays(loose(3), full(1), ("drop", 1), ((0,),))
        self.is_sought(loose(3), full(1), ("drop", 0), "drawn")
        self.stays(beside(full(3), row(3)), full(3), ("drop", 4), ((0,), (1,), (2,)), ((0,), (1,), (2,)))

    def test_a_draw_within_a_lot(self):
        self.stays(row(4), full(2), ("draw", 0, 1), ((0, 2), (3,)))
        self.stays(row(4), full(2), ("draw", 1, 2), ((0, 1), (3,)))
        self.stays(ring(5), full(3), ("draw", 1, 2), ((0, 1), (3,), (4,)), ((0, 1, 2), (3,), (4,)))

    def test_a_draw_between_two_lots(self):
        # To the earlier lot, the later one having nothing left.
        self.is_sought(row(4), full(2), ("draw", 2, 3), "drawn")
        self.is_sought(full(3), full(3), ("draw", 0, 1), "barred")
        self.is_sought(ring(5), full(3), ("draw", 3, 4), "drawn", ((0, 1, 2), (3,), (4,)))
        # To the later lot, which has nothing left, too.
        told = ((0, 1, 2), ((0, 1), (0, 2)))
        self.is_sought(((0, 1, 4), ((0, 4), (1, 4))), told, ("draw", 0, 4), "barred", ((4,), (0,), (1,)))
        web = ((0, 1, 2, 3, 4), ((0, 1), (0, 3), (0, 4), (1, 2), (2, 3), (2, 4)))
        self.is_sought(web, full(3), ("draw", 2, 3), "drawn", ((0, 1, 3), (2,), (4,)))

    def test_a_cut(self):
        self.is_sought(row(4), full(2), ("cut", 2, 3), "drawn")
        self.is_sought(row(4), full(2), ("cut", 0, 1), "drawn")
        self.is_sought(full(3), full(3), ("cut", 0, 1), "barred")
        self.is_sought(ring(5), full(3), ("cut", 1, 2), "barred")
        # Another tie between the lots is left, or another way within the lot.
        self.stays(full(4), full(2), ("cut", 0, 3), ((0, 1, 2), (3,)), ((0, 1, 2), (3,)))
        self.stays(full(4), full(2), ("cut", 0, 1), ((0, 1, 2), (3,)))
        # Lots that aren't tied in the told web, and places in no lot.
        self.stays(full(2), loose(2), ("cut", 0, 1), ((0,), (1,)), ((0,), (1,)))
        self.stays(beside(full(1), full(2)), full(1), ("cut", 1, 2), ((0,),), ((0,),))

    def test_lots_left(self):
        for lots, deed, left in [
            (((0, 1), (2, 3)), ("drop", 1), ((0,), (2, 3))), (((0, 1), (2, 3)), ("drop", 7), ((0, 1), (2, 3))),
            (((4,), (2, 3)), ("drop", 4), ((), (2, 3))), (((0, 1), (2, 3)), ("cut", 1, 2), ((0, 1), (2, 3))),
            (((0, 1), (2, 3)), ("cut", 0, 1), ((0, 1), (2, 3))), (((0, 1), (2, 3)), ("draw", 0, 1), ((0,), (2, 3))),
            (((0, 1), (2, 3)), ("draw", 1, 2), ((0, 1), (3,))), (((2, 3), (0, 1)), ("draw", 1, 2), ((1, 3), (0,))),
            (((2, 3), (0, 1)), ("draw", 1, 3), ((1, 2), (0,))), (((0, 1), (2, 3)), ("draw", 1, 7), ((0, 1), (2, 3))),
            (((0, 1), (2, 3)), ("draw", 3, 7), ((0, 1), (2, 3))), (((2, 7), (3, 5)), ("draw", 1, 7), ((1, 2), (3, 5))),
            (((2, 5), (3, 7)), ("draw", 1, 7), ((2, 5), (1, 3))), (((0, 1), (2, 3)), ("draw", 6, 7), ((0, 1), (2, 3))),
            (((5,), (6,)), ("draw", 5, 6), ((5,), ())), (((6,), (5,)), ("draw", 5, 6), ((5,), ())), ((), ("drop", 1), ()),
            (((1,), (4, 9), (2, 3)), ("draw", 3, 9), ((1,), (3, 4), (2,))), (((1,), (2, 3), (4, 9)), ("draw", 3, 9), ((1,), (2, 3), (4,))),
        ]:
            self.assertEqual(asked(self, lots_left, lots, deed), left)
            self.assertEqual(plain_lots(lots, deed), left)
        rng = random.Random(22)
        for _ in range(300):
            owners = [rng.randrange(4) for _ in range(9)]
            lots = tuple(tuple(place for place in range(9) if owners[place] == h) for h in range(3))
            a, b = sorted(rng.sample(range(9), 2))
            for deed in (("cut", a, b), ("draw", a, b), ("drop", a)):
                self.assertEqual(lots_left(lots, deed), plain_lots(lots, deed))


class Barred(Keeping):
    def test_stays_barred_without_a_search(self):
        for web, told in [(ring(6), star(3)), (row(5), full(3)), (full(4), full(5)), (grid(2, 3), both(2, 3)), (both(3, 4), full(5))]:
            rng = random.Random(len(web[1]))
            for most in (0, 2000):
                if verdict(web, told, most)[0] != "barred":
                    continue
                kept = self.kept(web, (told,), most)
                first = kept.paper(0)
                self.assertEqual(first[:2], (web, ()))
                now, behind = web, ()
                while deeds(now):
                    deed = rng.choice(deeds(now))
                    kept.do(deed)
                    now, behind = done(now, deed), behind + (deed,)
                    self.assertEqual((kept.words(), kept.searches()), (("barred",), 1))
                    self.assertEqual(kept.paper(0), (web, behind, first[2]))
                    self.assertIs(shows_kept(now, told, kept.paper(0)), True)
                self.assertEqual(now, NOTHING)

    def test_barred_later(self):
        # The paper bars from the web in which it was sought.
        kept = self.kept(ring(5), (full(3),), 2000)
        kept.do(("draw", 0, 1))
        self.assertEqual((kept.words(), kept.searches()), (("drawn",), 1))
        kept.do(("cut", 2, 3))
        web = ((0, 2, 3, 4), ((0, 2), (0, 4), (3, 4)))
        self.assertEqual((kept.web(), kept.words(), kept.searches()), (web, ("barred",), 2))
        kept.do(("drop", 0))
        start, behind, paper = kept.paper(0)
        self.assertEqual((start, behind), (web, (("drop", 0),)))
        self.assertEqual(kept.searches(), 2)


class Open(Keeping):
    def test_sought_anew_behind_each_deed(self):
        kept = self.kept(ring(5), (full(3), full(2)), 0)
        self.assertEqual((kept.words(), kept.searches()), (("open", "open"), 2))
        kept.do(("draw", 0, 1))
        self.assertEqual((kept.words(), kept.searches()), (("open", "open"), 4))
        kept.do(("cut", 0, 2))
        self.assertEqual((kept.words(), kept.searches()), (("barred", "open"), 6))
        self.assertIsNone(kept.paper(1))
        kept.do(("drop", 3))
        self.assertEqual((kept.words(), kept.searches()), (("barred", "open"), 7))
        kept.do(("cut", 0, 4))
        self.assertEqual((kept.words(), kept.searches()), (("barred", "barred"), 8))
        kept.do(("drop", 0))
        self.assertEqual((kept.words(), kept.searches()), (("barred", "barred"), 8))

    def test_drawn_when_few_places_are_left(self):
        # Four places are asked for the drawing in a row of four.
        kept = self.kept(row(6), (full(2),), 4)
        self.assertEqual(kept.words(), ("open",))
        kept.do(("drop", 5))
        self.assertEqual((kept.words(), kept.searches()), (("open",), 2))
        kept.do(("drop", 4))
        self.assertEqual((kept.words(), kept.searches()), (("drawn",), 3))
        self.assertEqual(kept.paper(0), (((0, 1, 2), (3,)), ((2, 3),)))
        kept.back()
        self.assertEqual((kept.words(), kept.searches(), kept.paper(0)), (("open",), 3, None))


class Back(Keeping):
    def test_all_as_it_was_but_searches(self):
        kept = self.kept(ring(5), (full(3), star(3), loose(3)), 2000)
        deeds_done = [("draw", 0, 1), ("cut", 2, 3), ("drop", 0), ("drop", 2), ("cut", 3, 4)]
        seen = []
        for deed in deeds_done:
            seen.append((kept.web(), kept.words(), [kept.paper(k) for k in range(3)]))
            self.assertIsNone(kept.do(deed))
        many = kept.searches()
        self.assertGreater(many, 3)
        while seen:
            self.assertIsNone(kept.back())
            self.assertEqual((kept.web(), kept.words(), [kept.paper(k) for k in range(3)]), seen.pop())
            self.assertEqual(kept.searches(), many)
        refused(self, NoBack, kept.back)
        self.assertEqual((kept.web(), kept.searches()), (ring(5), many))
        # Done again, all is sought again.
        for deed in deeds_done:
            kept.do(deed)
        self.assertEqual(kept.searches(), many + many - 3)

    def test_nothing_to_undo(self):
        for web in (NOTHING, full(3), loose(2)):
            kept = self.kept(web, (full(2),), 30)
            refused(self, NoBack, kept.back)
            self.assertEqual((kept.web(), kept.searches()), (web, 1))
        kept = self.kept(full(3), (full(2),), 30)
        kept.do(("drop", 0))
        kept.back()
        refused(self, NoBack, kept.back)
        refused(self, NoDeed, kept.do, ("drop", 9))
        refused(self, NoBack, kept.back)


class Refused(Keeping):
    def test_no_deed(self):
        kept = self.kept(ring(5), (full(3), star(3)), 2000)
        kept.do(("draw", 0, 1))
        before = (kept.web(), kept.words(), kept.searches(), kept.paper(0), kept.paper(1))
        things = [("drop", 1), ("drop", 5), ("cut", 0, 1), ("cut", 2, 0), ("draw", 0, 3), ("draw", 2, 0), ("drop", True), ("drop", False),
                  ("cut", False, 2), ["drop", 0], ("drop", [0]), ("drop",), ("drop", 0, 2), ("cut", 0), ("cut", 0, 2, 3), "drop 0", "drop",
                  ("Drop", 0), ("drop", "0"), ("drop", -1), ("drop", None), (("drop", 0),), ("drop", (0,)), Prickly(),
                  ("drop", Prickly()), (Prickly(), 0), nested(lambda x: (x,), 0), nested(lambda x: ("drop", x), 0)]
        for thing in things + odd_things():
            self.assertEqual(refused(self, NoDeed, kept.do, thing).number, 0)
            self.assertEqual((kept.web(), kept.words(), kept.searches(), kept.paper(0), kept.paper(1)), before)
        kept.back()
        self.assertEqual(kept.web(), ring(5))
        refused(self, NoBack, kept.back)

    def test_kepts_are_apart(self):
        tolds = (full(3), star(3))
        one, other = Kept(ring(5), tolds, 2000), Kept(ring(5), tolds, 2000)
        one.do(("cut", 0, 1))
        self.assertEqual((other.web(), other.words(), other.searches()), (ring(5), ("drawn", "barred"), 2))
        self.assertEqual((one.words(), one.searches()), (("barred", "barred"), 3))
        refused(self, NoBack, other.back)
        other.do(("drop", 0))
        one.back()
        self.assertEqual((one.web(), other.web()), (ring(5), done(ring(5), ("drop", 0))))


SESSIONS = [
    (grid(2, 3), (full(3), star(3), diamond(), row(4))), (ring(7), (full(3),)), (both(2, 4), (row(3), loose(3))), (full(5), (full(4), ring(4))),
    (holed(grid(2, 3)), (called(full(3), (9, 2, 40)), called(row(3), (5, 4, 3)))), (loose(4), (loose(3), full(1), full(2))),
    (beside(ring(3), ring(4)), (beside(full(2), full(2)), ring(4), row(3))), (star(6), (star(3), loose(4), row(3))),
    (grid(3, 3), (full(3), ring(4))), (both(3, 4), (full(4), star(4))), (NOTHING, (full(1),)), (spider(), (star(3), row(5), loose(2))),
]


def sort_of(lots, deed):
    """What a deed is to the lots."""
    owner = {place: at for at, lot in enumerate(lots) for place in lot}
    if deed[0] == "drop":
        return ("drop", "lot" if deed[1] in owner else "none")
    one, other = owner.get(deed[1]), owner.get(deed[2])
    if one is None or other is None:
        return (deed[0], "none")
    return (deed[0], "within" if one == other else "earlier" if one < other else "later")


class Sessions(Keeping):
    """Deeds at random, done and undone, held against the words step by step."""

    def test_sessions(self):
        rng = random.Random(23)
        seen = {}
        for web, tolds in SESSIONS * 3:
            most = rng.choice((0, 30, 30, 2000))
            most = 300 if len(web[0]) > 7 else most
            kept, plain = self.kept(web, tolds, most), PlainKept(web, tolds, most)
            for _ in range(14):
                now, known = plain.states[-1]
                if len(plain.states) > 1 and rng.random() < 0.25:
                    self.assertIsNone(kept.back())
                    plain.back()
                elif deeds(now):
                    deed = rng.choice(deeds(now))
                    self.assertIsNone(kept.do(deed))
                    plain.do(deed)
                    self.count(seen, deed, known, plain.states[-1][1])
                self.same(kept, plain)
            while len(plain.states) > 1:
                kept.back()
                plain.back()
                self.same(kept, plain)
            refused(self, NoBack, kept.back)
        for sort in [("drop", "lot"), ("cut", "earlier"), ("cut", "within")]:
            for word in ("stays", "sought"):
                self.assertGreater(seen.get(sort + (word,), 0), 0, (sort, word, seen))
        for sort in [("drop", "none", "stays"), ("draw", "within", "stays"), ("draw", "earlier", "sought"), ("draw", "later", "sought"),
                     ("barred",), ("open",)]:
            self.assertGreater(seen.get(sort, 0), 0, (sort, seen))

    def count(self, seen, deed, ahead, behind):
        for (word, thing), (word_behind, thing_behind) in zip(ahead, behind):
            key = (word,)
            if word == "drawn":
                stays = word_behind == "drawn" and thing_behind == plain_lots(thing, deed)
                key = sort_of(thing, deed) + ("stays" if stays else "sought",)
            seen[key] = seen.get(key, 0) + 1

    def test_what_is_kept_is_true(self):
        """Drawn and barred, where kept, are true of the web as it is, by a search of their own."""
        rng = random.Random(24)
        for web, tolds in SESSIONS[:6]:
            for most in (0, 30, 2000):
                kept = Kept(web, tolds, most)
                while deeds(kept.web()):
                    kept.do(rng.choice(deeds(kept.web())))
                    for told, word in zip(tolds, kept.words()):
                        if word != "open":
                            self.assertEqual(sought(kept.web(), told, "any", None, 10 ** 6)[0], {"drawn": "drawn", "barred": "none"}[word])


if __name__ == "__main__":
    unittest.main()
