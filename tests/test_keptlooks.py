import itertools
import random
import unittest

from plainpapers import is_held
from samples import Prickly, all_forms, asked, called, nested, odd_things, some_rows
from drawnweb.barlooks import shows_barred
from drawnweb.deeds import deeds, done, played
from drawnweb.keptlooks import shows_kept
from drawnweb.made import both, full, grid, ring, row, star
from drawnweb.verdicts import verdict

NOTHING = ((), ())
FIVE = ring(5)
BEHIND = ((0, 2, 4), ((0, 2), (0, 4)))
ROW = (("draw", 0, 1), ("drop", 3))
PAPER = ("kind", "rings")
# The full web of three is drawn in the ring, and what the diamond needs never is.
TOLD = ((0, 1, 2, 3), ((0, 1), (0, 2), (0, 3), (1, 2), (1, 3)))
GOOD = (FIVE, ROW, PAPER)


def loose(many):
    return (tuple(range(many)), ())


class Looks(unittest.TestCase):
    def so(self, web, told, thing):
        self.assertIs(asked(self, shows_kept, web, told, thing), True, thing)

    def not_so(self, thing, web=BEHIND, told=TOLD):
        self.assertIs(shows_kept(web, told, thing), False, thing)


class Written(Looks):
    def test_good_ones(self):
        self.assertEqual(played(FIVE, ROW), BEHIND)
        self.so(BEHIND, TOLD, GOOD)
        self.so(BEHIND, TOLD, (BEHIND, (), ("count",)))
        self.so(BEHIND, TOLD, (BEHIND, (), ("kind", "forest")))
        self.so(BEHIND, TOLD, (FIVE, ROW, ("wall", (), (PAPER,))))
        self.so(FIVE, TOLD, (FIVE, (), PAPER))
        self.so(NOTHING, full(1), (NOTHING, (), ("count",)))
        self.so(loose(4), full(2), (loose(5), (("drop", 4),), ("kind", "bare")))

    def test_another_row_to_the_same_web(self):
        self.so(BEHIND, TOLD, (FIVE, (("drop", 3), ("draw", 0, 1)), PAPER))
        self.so(BEHIND, TOLD, (FIVE, (("cut", 2, 3), ("drop", 3), ("draw", 0, 1)), PAPER))
        # By drops and a tie drawn otherwise, from a web of other names.
        self.so(BEHIND, TOLD, (((0, 2, 4, 7), ((0, 2), (0, 4), (0, 7))), (("drop", 7),), ("kind", "stars")))
        self.so(BEHIND, TOLD, (((0, 2, 4, 7), ((0, 4), (0, 7), (2, 7))), (("draw", 0, 7),), ("kind", "rows")))

    def test_another_web(self):
        for web in [FIVE, NOTHING, ((0, 2, 4), ((0, 2),)), ((0, 2, 4), ((0, 2), (0, 4), (2, 4))), ((0, 1, 2), ((0, 1), (0, 2))), ((0, 2, 3), ((0, 2), (0, 3)))]:
            self.not_so(GOOD, web)
        for start in [ring(6), row(5), called(FIVE, (0, 2, 1, 3, 4)), BEHIND, NOTHING, full(5), called(FIVE, (5, 6, 7, 8, 9)), None, (), (FIVE,), list(FIVE),
                      (list(FIVE[0]), FIVE[1]), (FIVE[0], list(FIVE[1])), (FIVE[0], FIVE[1][::-1]), (FIVE[0][::-1], FIVE[1]), FIVE + ((),),
                      (FIVE[0], FIVE[1] + ((3, 9),)), (tuple(map(str, FIVE[0])), FIVE[1]), ((False, True, 2, 3, 4), FIVE[1]), "0 1 : 0.1", 0, FIVE[0],
                      ((0, 1, 2, 3, 4, 100), FIVE[1])]:
            self.not_so((start, ROW, PAPER))

    def test_another_row(self):
        for other in [(), ROW[:1], ROW[1:], ROW + ROW[:1], ROW + (("drop", 4),), (("draw", 0, 1), ("drop", 2)), (("draw", 1, 2), ("drop", 3)),
                      (("draw", 0, 1), ("drop", 1)), (("drop", 0), ("drop", 3)), (("cut", 0, 1), ("drop", 3)), ROW[::-1] + (("drop", 0),),
                      (("draw", 0, 1), ("drop", 3), ("cut", 0, 2)), list(ROW), (list(ROW[0]), ROW[1]), (ROW,), None, "draw 0 1, drop 3", 0, True,
                      (("draw", False, True), ("drop", 3)), (("draw", 0, 1), ("drop", "3")), (("draw", 1, 0), ("drop", 3)), ROW + ((),),
                      ROW + (None,), {0: ROW[0], 1: ROW[1]}, set(ROW), (("draw", 0, 1), ("drop", 3), ("drop", 3)), iter(ROW), ("draw", 0, 1)]:
            self.not_so((FIVE, other, PAPER))

    def test_another_paper(self):
        for other in [("count",), ("kind", "forest"), ("kind", "series"), ("kind", "no"), ("kind",), ("kind", "rings", 0), ["kind", "rings"], "rings",
                      ("width", FIVE[0]), ("spread", FIVE[0]), ("width", (0, 2, 4)), ("book", ("few",)), None, (), ("wall", (), ()),
                      ("wall", (), (("count",),)), ("wall", (0,), (PAPER,) * 2), (PAPER,), ("barred", PAPER), (FIVE, (), PAPER), True, 0]:
            self.assertIs(shows_barred(FIVE, TOLD, other), False, other)
            self.not_so((FIVE, ROW, other))

    def test_a_paper_of_the_web_as_it_is_alone(self):
        # It bars the told web from the web behind, but not from the one ahead.
        self.assertIs(shows_barred(BEHIND, full(3), ("kind", "forest")), True)
        self.so(BEHIND, full(3), (BEHIND, (), ("kind", "forest")))
        self.not_so((FIVE, ROW, ("kind", "forest")), told=full(3))
        # The told one is drawn in the ring, and not behind.
        self.not_so((FIVE, ROW, PAPER), told=full(3))

    def test_other_parts(self):
        for thing in [GOOD[:2], GOOD[1:], GOOD + ((),), GOOD + (None,), list(GOOD), (GOOD,), GOOD[::-1], (FIVE, PAPER, ROW), (ROW, FIVE, PAPER),
                      ("barred",) + GOOD, ("barred", GOOD), (), None, PAPER, FIVE, ROW, dict(enumerate(GOOD)), str(GOOD)]:
            self.not_so(thing)


class Sizes(Looks):
    def test_twenty_four_places(self):
        for many, so in [(3, True), (23, True), (24, True), (25, False), (26, False), (60, False)]:
            web = loose(many)
            behind = (web[0][:3], ())
            thing = (web, tuple(("drop", place) for place in web[0][3:]), ("kind", "bare"))
            self.assertEqual(played(web, thing[1]), behind)
            self.assertIs(asked(self, shows_kept, behind, full(2), thing), so)
        # Just as many, without deeds.
        self.so(loose(24), full(2), (loose(24), (), ("kind", "bare")))
        self.not_so((loose(25), (), ("kind", "bare")), loose(25), full(2))

    def test_sixty_deeds(self):
        # Four places that fifteen others are tied to: cut by cut, it is too narrow for six places all tied.
        web = both(4, 15)
        cuts = tuple(("cut", a, b) for a, b in web[1])
        self.assertEqual(len(cuts), 60)
        narrow = ("width", tuple(range(4, 19)) + (0, 1, 2, 3))
        for many in (0, 1, 59, 60):
            self.so(played(web, cuts[:many]), full(6), (web, cuts[:many], narrow))
        # Sixty cuts and a drop; without the first cut they are sixty deeds of the web behind it.
        more = cuts + (("drop", 0),)
        behind = played(web, more)
        self.not_so((web, more, narrow), behind, full(6))
        self.so(behind, full(6), (played(web, more[:1]), more[1:], narrow))

    def test_more_ties_than_sixty(self):
        # Seven places that sixteen others are tied to have 112 ties.
        web = both(7, 16)
        narrow = ("spread", tuple(range(7)) + tuple(range(7, 23)))
        self.assertIs(shows_barred(web, full(9), narrow), True)
        self.so(done(web, ("drop", 0)), full(9), (web, (("drop", 0),), narrow))


class Anything(Looks):
    def test_of_anything(self):
        for thing in odd_things() + [Prickly(), (Prickly(),) * 3, [Prickly()]]:
            for wrong in [thing, (thing,), (thing, thing, thing), (thing, ROW, PAPER), (FIVE, thing, PAPER), (FIVE, ROW, thing), (FIVE, (thing,), PAPER),
                          (FIVE, ROW + (thing,), PAPER), (FIVE, (ROW[0], ("drop", thing)), PAPER), (FIVE, ROW, ("kind", thing)), GOOD + (thing,),
                          ((thing, FIVE[1]), ROW, PAPER), ((FIVE[0], thing), ROW, PAPER), ((FIVE[0] + (thing,), FIVE[1]), ROW, PAPER),
                          (FIVE, ROW, ("wall", (), (thing,))), (FIVE, ROW, (thing, "rings"))]:
                self.not_so(wrong)

    def test_forty_deep(self):
        for wrap in (lambda x: (x,), lambda x: [x], lambda x: (FIVE, ROW, x), lambda x: (FIVE, x, PAPER), lambda x: (x, ROW, PAPER), lambda x: (x, x, x),
                     lambda x: {0: x}):
            for core in (0, (), None, GOOD, PAPER, Prickly()):
                self.not_so(nested(wrap, core))
        deep = nested(lambda x: ("wall", (), (x,)), PAPER, 18)
        self.so(BEHIND, TOLD, (FIVE, ROW, deep))
        self.not_so((FIVE, ROW, nested(lambda x: ("wall", (), (x,)), ("count",), 18)))


class Whole(Looks):
    def test_what_is_taken_is_true(self):
        """Whatever is taken, no row of deeds leads from the web as it is to the told one."""
        rng = random.Random(23)
        webs = [(tuple(range(many)), ties) for size in (3, 4, 5) for many, ties in sorted(all_forms(size))]
        tolds = [(tuple(range(many)), ties) for size in (2, 3, 4) for many, ties in sorted(all_forms(size))]
        taken = left = 0
        for web in webs + [grid(2, 3), star(5)]:
            for told in rng.sample(tolds, 6):
                for behind, now in itertools.islice(some_rows(rng, web, 4, deeds, done), 3):
                    word, found = verdict(web, told, 2000)
                    so = shows_kept(now, told, (web, behind, found))
                    self.assertIs(so, word == "barred")
                    # A paper of the web behind is none of the web ahead, where that one holds the told web.
                    word, found = verdict(now, told, 2000)
                    self.assertFalse(word == "barred" and is_held(web, told) and shows_kept(now, told, (web, behind, found)))
                    if so:
                        taken += 1
                        self.assertFalse(is_held(now, told))
                    else:
                        left += 1
        self.assertGreater(min(taken, left), 100)


if __name__ == "__main__":
    unittest.main()
