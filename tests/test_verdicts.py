import itertools
import random
import unittest

from plainbooks import Half, searched
from plainpapers import WORDS, is_held, least, plain_holds_on, plain_kind, plain_sides
from samples import Prickly, all_forms, asked, called, form_of, holed, nested, odd_things, refused
from test_orders import plain_spreads, plain_widths
from drawnweb.barlooks import shows_barred
from drawnweb.deeds import played
from drawnweb.drawings import row_of, shows_drawn
from drawnweb.errors import NoWall
from drawnweb.leasts import least_spread, least_width
from drawnweb.made import beside, both, diamond, full, grid, ring, row, star
from drawnweb.seeking import sought
from drawnweb.verdicts import verdict, walled

NOTHING = ((), ())
OPEN = ("open", None)
ENOUGH = 2000
# Three places tied to each other and to three more.
SIX = (full(6)[0], tuple(sorted(full(3)[1] + both(3, 3)[1])))


def loose(many):
    return (tuple(range(many)), ())


def barred_at_once(web, told):
    """Whether a count, a kind, or some order's width or spread bars the told web, by their words."""
    if len(told[0]) > len(web[0]) or len(told[1]) > len(web[1]):
        return True
    if any(plain_kind(word, web) and not plain_kind(word, told) for word in WORDS):
        return True
    return any(least(web, measure) < least(told, measure) for measure in (plain_widths, plain_spreads))


def plain_verdict(web, told, most):
    """The verdict's word, and its drawing where it is one."""
    if barred_at_once(web, told):
        return ("barred", None)
    (word, found), _ = searched(Half(web, told, "any", None), most)
    return ("barred", None) if word == "none" else (word, found)


class Verdicts(unittest.TestCase):
    def look(self, web, told, answer):
        """What point 21 says of whatever answer."""
        word, found = answer
        self.assertIn(word, ("barred", "drawn", "open"))
        if word == "barred":
            self.assertIs(shows_barred(web, told, found), True, answer)
        if word == "drawn":
            self.assertIs(shows_drawn(web, told, found), True, answer)
        if word == "open":
            self.assertEqual(answer, OPEN)
        return word

    def told(self, web, told, most):
        answer = asked(self, verdict, web, told, most)
        self.look(web, told, answer)
        return answer


class AtOnce(Verdicts):
    def barred(self, web, told):
        for most in (0, 1, ENOUGH):
            self.assertEqual(self.told(web, told, most)[0], "barred")

    def test_count(self):
        for web, told in [(NOTHING, full(1)), (full(4), full(5)), (loose(4), loose(5)), (star(3), ring(4)), (row(4), ring(4)),
                          (grid(2, 2), full(4)), (((7,), ()), called(full(2), (3, 9)))]:
            self.barred(web, told)

    def test_each_kind(self):
        pairs = {
            "bare": (loose(9), full(2)), "pairs": (beside(full(2), full(2)), row(3)), "hub": (beside(star(4), full(1)), beside(full(2), full(2))),
            "stars": (beside(star(3), star(3)), row(4)), "rows": (row(9), star(3)), "forest": (star(8), full(3)),
            "rings": (beside(ring(4), ring(4)), diamond()), "series": (grid(4, 2), full(4)),
        }
        for word, (web, told) in pairs.items():
            self.assertTrue(plain_kind(word, told) is False, word)
            self.barred(web, told)
            self.barred(holed(web), called(told, tuple(range(90, 90 - len(told[0]), -1))))
        # What a comb never holds has three places or seven, and told webs have five.
        self.barred(star(8), called(full(3), (9, 4, 7)))

    def test_width_and_spread(self):
        # Of no kind both of them, and with as many places and ties: three places that all the others are tied to.
        for web in [both(3, 4), both(3, 5), both(3, 6), holed(both(3, 6)), SIX]:
            for told in [full(5), called(full(5), (90, 80, 3, 2, 50))]:
                self.assertEqual(searched(Half(web, told, "any", None), 5)[0], OPEN)
                self.barred(web, told)

    def test_width_without_spread(self):
        # Each place behind the fourth is tied to three that are tied to each other.
        web = (tuple(range(8)), ((0, 1), (0, 2), (0, 3), (0, 4), (0, 5), (0, 7), (1, 2), (1, 3), (1, 4), (2, 3), (2, 5), (2, 6), (2, 7),
                                 (3, 4), (3, 5), (3, 6), (5, 6), (5, 7)))
        self.assertEqual((least_width(web)[0], least_spread(web)[0], least_spread(full(5))[0]), (3, 4, 4))
        self.barred(web, full(5))
        self.barred(holed(web), full(5))

    def test_where_just_one_sort_bars(self):
        """Each sort bars somewhere where no other one does, but spread: of five places it is the width."""
        webs = [(tuple(range(many)), ties) for size in (4, 5, 6) for many, ties in sorted(all_forms(size))]
        tolds = [(tuple(range(many)), ties) for size in (3, 4, 5) for many, ties in sorted(all_forms(size))]
        seen = {}
        for web, told in itertools.product(webs, tolds):
            sorts = tuple(sort for sort, so in (
                ("count", len(told[0]) > len(web[0]) or len(told[1]) > len(web[1])),
                ("kind", any(plain_kind(word, web) and not plain_kind(word, told) for word in WORDS)),
                ("width", least(web, plain_widths) < least(told, plain_widths)),
                ("spread", least(web, plain_spreads) < least(told, plain_spreads))) if so)
            if sorts and seen.setdefault(sorts, 0) < 8:
                seen[sorts] += 1
                self.barred(web, told)
        for sorts in (("count",), ("kind",), ("width", "spread")):
            self.assertGreater(seen[sorts], 1, sorts)

    def test_with_most_0_nothing_is_drawn(self):
        for web, told in [(full(3), full(3)), (full(1), full(1)), (ring(5), full(3)), (grid(3, 3), full(4))]:
            self.assertEqual(self.told(web, told, 0), OPEN)


class BySearch(Verdicts):
    def test_where_only_the_search_bars(self):
        found = 0
        webs = [(tuple(range(many)), ties) for size in (4, 5) for many, ties in sorted(all_forms(size))]
        tolds = [(tuple(range(many)), ties) for size in (2, 3, 4, 5) for many, ties in sorted(all_forms(size))]
        for web, told in itertools.product(webs, tolds):
            if not barred_at_once(web, told) and not is_held(web, told):
                found += 1
                self.assertEqual(self.told(web, told, ENOUGH)[0], "barred")
                if found % 5 == 0:
                    self.assertEqual(self.told(web, told, 0)[0], "barred" if sought(web, told, "any", None, 0)[0] == "none" else "open")
        self.assertGreater(found, 50)

    def test_drawn_as_sought_tells_it(self):
        rng = random.Random(21)
        drawn = 0
        for web, told in [(full(3), full(3)), (ring(5), full(3)), (grid(3, 3), full(4)), (row(9), row(5)), (loose(9), loose(5)),
                          (both(3, 6), full(4)), (grid(2, 4), ring(4)), (full(9), full(5)), (star(8), star(4)), (full(1), full(1))]:
            for _ in range(3):
                web = called(web, rng.sample(range(100), len(web[0])))
                told = called(told, rng.sample(range(100), len(told[0])))
                answer = self.told(web, told, 200)
                self.assertEqual(answer, searched(Half(web, told, "any", None), 200)[0])
                if answer != OPEN:
                    drawn += 1
                    self.assertEqual(form_of(played(web, row_of(web, told, answer[1]))), form_of(told))
        self.assertGreater(drawn, 15)

    def test_open(self):
        for web, told in [(ring(5), full(3)), (grid(3, 3), full(4)), (full(4), loose(3))]:
            (word, found), places = searched(Half(web, told, "any", None), ENOUGH)
            self.assertEqual(word, "drawn")
            self.assertEqual(self.told(web, told, len(places)), (word, found))
            for most in range(len(places)):
                self.assertEqual(self.told(web, told, most), OPEN)

    def test_most_where_it_is_barred_by_a_book(self):
        for web, told in [(ring(5), star(3)), (grid(2, 3), both(2, 3)), (both(2, 4), ring(5)), (beside(full(3), full(3)), row(4))]:
            self.assertFalse(barred_at_once(web, told))
            (word, book), places = searched(Half(web, told, "any", None), ENOUGH)
            self.assertEqual(word, "none")
            self.assertEqual(self.told(web, told, len(places))[0], "barred")
            self.assertEqual(self.told(web, told, len(places) - 1), OPEN)

    def test_all_small_webs(self):
        webs = [(tuple(range(many)), ties) for size in range(6) for many, ties in sorted(all_forms(size))]
        for web in webs:
            for told in [web for web in webs if 1 <= len(web[0]) <= 4]:
                answer = verdict(web, told, ENOUGH)
                self.look(web, told, answer)
                self.assertEqual(answer[0] == "drawn", is_held(web, told), (web, told))
                self.assertNotEqual(answer, OPEN)

    def test_against_the_words(self):
        rng = random.Random(12)
        webs = [(tuple(range(many)), ties) for size in range(7) for many, ties in sorted(all_forms(size))]
        tolds = [web for web in webs if 1 <= len(web[0]) <= 5]
        seen = {}
        for _ in range(400):
            web, told, most = rng.choice(webs), rng.choice(tolds), rng.choice((0, 1, 3, 8, 20, 100))
            word, drawing = plain_verdict(web, told, most)
            answer = self.told(web, told, most)
            self.assertEqual(answer[0], word, (web, told, most))
            if word != "barred":
                self.assertEqual(answer, (word, drawing))
            seen[word] = seen.get(word, 0) + 1
        self.assertGreater(min(seen[word] for word in ("barred", "drawn", "open")), 20)


class Walled(Verdicts):
    def walled(self, web, told, wall, most):
        """The answer, held against the words of point 21."""
        answer = asked(self, walled, web, told, wall, most)
        self.look(web, told, answer)
        verdicts = [verdict(side, told, most) for side in plain_sides(web, wall)]
        words = [word for word, _ in verdicts]
        if set(words) <= {"barred"}:
            self.assertEqual(answer[0], "barred")
        elif len(wall) <= 1 and "drawn" in words:
            self.assertEqual(answer, verdicts[words.index("drawn")])
        else:
            self.assertEqual(answer, OPEN)
        return answer

    def test_no_wall(self):
        web, told = ring(6), full(3)
        for wrong in [(6,), (-1,), (0, 6), (99,), (1, 0), (0, 0), (1, 1, 2), [0], [], [0, 1], (True,), (False,), (0, True), (False, 1),
                      ("0",), (None,), ((0,),), ((),), 0, 1, None, "", "01", b"", b"\x00", {0}, frozenset(), {}, {0: 1}, range(1), (0, "1"),
                      (0, None), ([0],), (10 ** 40,)]:
            refused(self, NoWall, walled, web, told, wrong, 9)
        refused(self, NoWall, walled, ((3, 7), ()), told, (4,), 9)
        refused(self, NoWall, walled, NOTHING, told, (0,), 9)
        self.assertEqual(walled(web, told, (), 99)[0], "drawn")

    def test_of_anything(self):
        for thing in odd_things() + [nested(lambda x: (x,), 0), nested(lambda x: (0, x), 1), (0, Prickly()), [Prickly()]]:
            if type(thing) is not tuple or thing:
                refused(self, NoWall, walled, ring(6), full(3), thing, 9)
            refused(self, NoWall, walled, ring(6), full(3), (0, thing, 5), 9)
            if type(thing) is not int or thing not in range(6):
                refused(self, NoWall, walled, ring(6), full(3), (thing,), 9)

    def test_holds_on_without_as_many(self):
        for web, told, wall, so in [
            (ring(6), full(3), (0,), True), (ring(6), full(3), (0, 3), True), (ring(6), full(3), (0, 2, 4), False), (ring(6), row(3), (), True),
            (ring(6), row(3), (0,), False), (ring(6), loose(2), (), False), (ring(6), full(1), (), True), (ring(6), full(1), (0,), False),
            (ring(6), full(2), (0,), True), (ring(6), full(2), (0, 1), False), (ring(6), ring(4), (0, 3), False), (ring(6), ring(4), (2,), True),
            (ring(6), ring(5), (2,), True), (ring(6), full(5), (0, 1, 2, 3), True), (ring(6), full(5), (0, 1, 2, 3, 4), False), (ring(6), star(3), (0,), False),
            (ring(6), beside(full(2), full(2)), (), False), (ring(6), both(2, 3), (1,), True), (ring(6), both(2, 3), (1, 4), False),
        ]:
            self.assertIs(plain_holds_on(told, len(wall)), so)
            if so:
                self.walled(web, told, wall, 50)
            else:
                refused(self, NoWall, walled, web, told, wall, 50)

    def test_barred_from_each_side(self):
        for web, told, wall in [
            (row(17), full(3), (8,)), (both(1, 23), full(3), (0,)), (both(3, 20), full(5), (0, 1, 2)), (beside(ring(8), ring(8)), diamond(), ()),
            (beside(full(4), full(4)), full(5), ()), (grid(2, 7), full(4), (6, 7)), (grid(3, 5), full(5), (6, 7, 8)),
            (called(row(17), tuple(range(83, 66, -1))), called(full(3), (7, 9, 1)), (75,)),
            (beside(full(3), beside(full(3), full(3))), full(4), ()), (loose(24), full(2), ()),
        ]:
            word, paper = self.walled(web, told, wall, ENOUGH)
            self.assertEqual(word, "barred")
            self.assertEqual(paper[:2], ("wall", wall))
            self.assertEqual(len(paper[2]), len(plain_sides(web, wall)))

    def test_barred_by_a_search_in_a_side(self):
        self.assertFalse(barred_at_once(grid(2, 3), both(2, 3)))
        web = beside(grid(2, 3), beside(grid(2, 3), row(4)))
        self.assertEqual(self.walled(web, both(2, 3), (), ENOUGH)[0], "barred")
        self.assertEqual(self.walled(web, both(2, 3), (), 3), OPEN)

    def test_drawn_in_the_first_of_two_sides(self):
        three = beside(row(5), beside(ring(5), ring(4)))
        self.assertEqual(self.walled(three, full(3), (), ENOUGH), verdict(plain_sides(three, ())[1], full(3), ENOUGH))
        pair = beside(ring(5), ring(5))
        self.assertEqual(self.walled(pair, full(3), (), ENOUGH)[1][0], ((0, 1, 2), (3,), (4,)))
        # Two rings of five with place 0 in both.
        web = (tuple(range(9)), tuple(sorted(ring(5)[1] + ((0, 5), (5, 6), (6, 7), (7, 8), (0, 8)))))
        answer = self.walled(web, full(3), (0,), ENOUGH)
        self.assertEqual(answer[0], "drawn")
        self.assertEqual({place for lot in answer[1][0] for place in lot}, {0, 1, 2, 3, 4})
        # A ring behind a row.
        tail = (tuple(range(12)), tuple(sorted([(k, k + 1) for k in range(11)] + [(8, 11)])))
        self.assertEqual(self.walled(tail, full(3), (7,), ENOUGH)[1][0], ((7, 8, 9), (10,), (11,)))

    def test_drawn_behind_a_side_that_is_open(self):
        # The first side is open with most 5, the second one drawn.
        web = beside(ring(9), full(3))
        self.assertEqual(verdict(ring(9), full(3), 5), OPEN)
        answer = self.walled(web, full(3), (), 5)
        self.assertEqual(answer[0], "drawn")
        self.assertEqual(answer[1][0], ((9,), (10,), (11,)))

    def test_open_with_a_wall_of_two(self):
        # In both sides the wall's two places are tied, so a ring is drawn there that the row doesn't hold.
        for web, wall in [(ring(6), (0, 3)), (row(5), (0, 4)), (full(5), (0, 1)), (grid(3, 3), (1, 7))]:
            self.assertIn("drawn", [verdict(side, full(3), ENOUGH)[0] for side in plain_sides(web, wall)])
            self.assertEqual(self.walled(web, full(3), wall, ENOUGH), OPEN)
        self.assertEqual(self.walled(full(6), full(4), (0, 1, 2), ENOUGH), OPEN)

    def test_open_where_one_side_is(self):
        web = beside(row(4), ring(9))
        self.assertEqual(self.walled(web, full(3), (), 5), OPEN)
        self.assertEqual(self.walled(web, full(3), (), 0), OPEN)
        self.assertEqual(self.walled(web, full(3), (), ENOUGH)[0], "drawn")

    def test_a_wall_of_all_places(self):
        for web, told in [(NOTHING, full(1)), (full(2), full(3)), (loose(2), full(3)), (full(4), full(5)), (((8,), ()), full(2))]:
            self.assertEqual(self.walled(web, told, web[0], 0), ("barred", ("wall", web[0], ())))
        refused(self, NoWall, walled, full(3), full(3), (0, 1, 2), 9)
        refused(self, NoWall, walled, ring(6), full(5), tuple(range(6)), 9)

    def test_no_wall_comes_first(self):
        # Neither a wall, nor does the told web hold on: both are refused alike.
        refused(self, NoWall, walled, ring(6), loose(2), (9, 9), 9)
        refused(self, NoWall, walled, ring(6), loose(2), Prickly(), 9)
        refused(self, NoWall, walled, ring(6), loose(2), tuple(range(50)), 9)

    def test_at_random(self):
        rng = random.Random(22)
        tolds = [(tuple(range(many)), ties) for size in (1, 2, 3, 4, 5) for many, ties in sorted(all_forms(size))]
        tolds = [told for told in tolds if plain_holds_on(told, 0)]
        words = {}
        for _ in range(300):
            many = rng.choice((3, 5, 6, 7))
            pairs = [pair for pair in itertools.combinations(range(many), 2) if rng.random() < 0.35]
            web, told = (tuple(range(many)), tuple(pairs)), rng.choice(tolds)
            wall = tuple(sorted(rng.sample(range(many), rng.choice((0, 0, 1, 1, 2, 3)))))
            if not plain_holds_on(told, len(wall)):
                refused(self, NoWall, walled, web, told, wall, 20)
                continue
            word = self.walled(web, told, wall, rng.choice((0, 5, 60)))[0]
            if word != "open" and many < 7:
                self.assertEqual(word == "drawn", is_held(web, told))
            words[word, min(len(wall), 2)] = True
        self.assertEqual(sorted(words), [("barred", 0), ("barred", 1), ("barred", 2), ("drawn", 0), ("drawn", 1), ("open", 0), ("open", 1), ("open", 2)])


if __name__ == "__main__":
    unittest.main()
