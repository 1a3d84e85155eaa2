import itertools
import random
import unittest

from samples import all_forms, asked, called, form_of, held_forms, holed
from drawnweb.kinds import is_kind, kinds, never
from drawnweb.made import beside, both, diamond, full, grid, ring, row, spider, star
from drawnweb.webs import is_web

WORDS = ("bare", "pairs", "hub", "stars", "rows", "combs", "forest", "rings", "series")
NOTHING = ((), ())


def loose(many):
    return (tuple(range(many)), ())


def tie_more(web, a, b):
    return (web[0], tuple(sorted(web[1] + ((a, b),))))


def many_beside(*webs):
    whole = NOTHING
    for web in webs:
        whole = beside(whole, web)
    return whole


def comb(teeth):
    """A row of places, each with a tooth of its own."""
    return (tuple(range(2 * teeth)), tuple(sorted(row(teeth)[1] + tuple((k, k + teeth) for k in range(teeth)))))


def rings_in_a_row(many):
    """Rings of three, each with a place in common with the next."""
    ties = [(2 * k + a, 2 * k + b) for k in range(many) for a, b in ((0, 1), (0, 2), (1, 2))]
    return (tuple(range(2 * many + 1)), tuple(sorted(ties)))


def ladder_of_threes(many):
    """Each place tied to the next two."""
    return (tuple(range(many)), tuple((a, b) for a, b in itertools.combinations(range(many), 2) if b - a <= 2))


# For each word: a web of it, and a tie with which it is just beyond; small ones, then ones of 24 places.
JUST_BEYOND = {
    "bare": [(loose(2), (0, 1)), (loose(24), (5, 20))],
    "pairs": [(many_beside(full(2), loose(1)), (1, 2)), (many_beside(*[full(2)] * 12), (3, 20))],
    "hub": [(beside(full(2), loose(2)), (2, 3)), (star(3), (1, 2)), (beside(star(20), loose(3)), (21, 23)),
            (beside(star(20), loose(3)), (7, 22)), (star(23), (11, 12))],
    "stars": [(beside(full(2), full(2)), (1, 2)), (star(2), (1, 2)), (many_beside(*[star(5)] * 4), (5, 7)),
              (many_beside(*[star(5)] * 4), (1, 4)), (many_beside(star(22), loose(1)), (3, 23))],
    "rows": [(beside(row(3), loose(1)), (1, 3)), (row(3), (0, 2)), (row(24), (0, 23)), (row(24), (3, 6)),
             (beside(row(20), row(4)), (10, 20)), (beside(row(20), row(4)), (10, 21))],
    "combs": [(beside(row(5), row(2)), (2, 5)), (star(3), (1, 2)), (comb(12), (0, 11)),
              (many_beside(comb(11), row(2)), (16, 22)), (many_beside(row(22), row(2)), (9, 23))],
    "forest": [(row(3), (0, 2)), (spider(), (4, 6)), (row(24), (4, 19)), (star(23), (5, 6)), (comb(12), (12, 23))],
    "rings": [(ring(4), (0, 2)), (rings_in_a_row(2), (1, 3)), (ring(24), (0, 12)), (beside(rings_in_a_row(11), loose(1)), (0, 22)),
              (many_beside(*[ring(6)] * 4), (0, 2))],
    "series": [(diamond(), (2, 3)), (grid(2, 3), (0, 5)), (both(2, 3), (2, 3)), (grid(2, 12), (0, 23)),
               (both(2, 22), (2, 3)), (ladder_of_threes(24), (4, 7))],
}


class Never(unittest.TestCase):
    def test_just_as_listed(self):
        listed = {
            "bare": (((0, 1), ((0, 1),)),),
            "pairs": (((0, 1, 2), ((0, 1), (1, 2))),),
            "hub": (((0, 1, 2), ((0, 1), (0, 2), (1, 2))), ((0, 1, 2, 3), ((0, 1), (2, 3)))),
            "stars": (((0, 1, 2), ((0, 1), (0, 2), (1, 2))), ((0, 1, 2, 3), ((0, 1), (1, 2), (2, 3)))),
            "rows": (((0, 1, 2), ((0, 1), (0, 2), (1, 2))), ((0, 1, 2, 3), ((0, 1), (0, 2), (0, 3)))),
            "combs": (((0, 1, 2), ((0, 1), (0, 2), (1, 2))),
                      ((0, 1, 2, 3, 4, 5, 6), ((0, 1), (0, 2), (0, 3), (1, 4), (2, 5), (3, 6)))),
            "forest": (((0, 1, 2), ((0, 1), (0, 2), (1, 2))),),
            "rings": (((0, 1, 2, 3), ((0, 1), (0, 2), (0, 3), (1, 2), (1, 3))),),
            "series": (((0, 1, 2, 3), ((0, 1), (0, 2), (0, 3), (1, 2), (1, 3), (2, 3))),),
        }
        self.assertEqual(tuple(listed), WORDS)
        for word in WORDS:
            self.assertEqual(asked(self, never, word), listed[word])
            for web in never(word):
                self.assertIs(is_kind(word, web), False)


class Kinds(unittest.TestCase):
    def test_of_no_places_all_nine(self):
        self.assertEqual(asked(self, kinds, NOTHING), WORDS)
        self.assertEqual(asked(self, kinds, ((42,), ())), WORDS)
        self.assertEqual(asked(self, kinds, loose(24)), WORDS)

    def test_known(self):
        self.assertEqual(asked(self, kinds, full(2)), WORDS[1:])
        self.assertEqual(asked(self, kinds, beside(full(2), full(2))), ("pairs", "stars", "rows", "combs", "forest", "rings", "series"))
        self.assertEqual(asked(self, kinds, row(3)), ("hub", "stars", "rows", "combs", "forest", "rings", "series"))
        self.assertEqual(asked(self, kinds, star(23)), ("hub", "stars", "combs", "forest", "rings", "series"))
        self.assertEqual(asked(self, kinds, beside(star(11), star(11))), ("stars", "combs", "forest", "rings", "series"))
        self.assertEqual(asked(self, kinds, row(24)), ("rows", "combs", "forest", "rings", "series"))
        self.assertEqual(asked(self, kinds, comb(12)), ("combs", "forest", "rings", "series"))
        self.assertEqual(asked(self, kinds, spider()), ("forest", "rings", "series"))
        self.assertEqual(asked(self, kinds, full(3)), ("rings", "series"))
        self.assertEqual(asked(self, kinds, ring(24)), ("rings", "series"))
        self.assertEqual(asked(self, kinds, diamond()), ("series",))
        self.assertEqual(asked(self, kinds, grid(2, 12)), ("series",))
        for web in [full(4), full(11), grid(3, 3), grid(6, 4), both(3, 3), holed(grid(4, 6)), beside(full(4), row(20))]:
            self.assertEqual(asked(self, kinds, web), ())

    def test_just_beyond(self):
        for word, rows in JUST_BEYOND.items():
            for at, (web, tie) in enumerate(rows):
                for shape in (lambda web: web, holed):
                    self.assertIs(asked(self, is_kind, word, shape(web)), True, (word, at))
                    more = shape(tie_more(web, *tie))
                    self.assertIs(is_web(more), True)
                    self.assertIs(asked(self, is_kind, word, more), False, (word, at))

    def test_ties_that_stay_within(self):
        self.assertIs(is_kind("series", tie_more(both(2, 22), 0, 1)), True)
        self.assertIs(is_kind("rings", tie_more(beside(ring(23), loose(1)), 0, 23)), True)
        self.assertIs(is_kind("series", tie_more(grid(2, 12), 0, 3)), True)
        self.assertIs(is_kind("combs", tie_more(comb(11), 3, 15)), False)
        self.assertIs(is_kind("combs", tie_more(many_beside(row(22), row(2)), 1, 22)), True)

    def test_far_apart(self):
        # What is never held comes out of long ways and great rings, too.
        long_legs = many_beside(row(22), row(2))
        self.assertIs(is_kind("combs", tie_more(long_legs, 11, 22)), False)
        self.assertIs(is_kind("rows", tie_more(long_legs, 21, 22)), True)
        three_ways = (tuple(range(23)), tuple(sorted(tie for leg in range(3) for tie in legs(leg))))
        self.assertIs(is_web(three_ways), True)
        self.assertEqual(kinds(three_ways), ("series",))
        far_four = subdivided_full4()
        self.assertIs(is_web(far_four), True)
        self.assertEqual(len(far_four[0]), 22)
        self.assertEqual(kinds(far_four), ())
        for tie in far_four[1]:
            less = (far_four[0], tuple(other for other in far_four[1] if other != tie))
            self.assertIs(is_kind("series", less), True)

    def test_all_small_webs(self):
        known = {}
        nevers = {word: [form_of(web) for web in never(word)] for word in WORDS}
        for many in range(7):
            for form in sorted(all_forms(many)):
                held = held_forms(form, known)
                told = tuple(word for word in WORDS if not any(web in held for web in nevers[word]))
                web = (tuple(range(many)), form[1])
                self.assertEqual(kinds(web), told)
                self.assertEqual(kinds(holed(web)), told)
                self.assertEqual(tuple(word for word in WORDS if is_kind(word, web)), told)

    def test_trees_of_eight(self):
        rng = random.Random(13)
        known = {}
        seen = set()
        for _ in range(40):
            ties = tuple(sorted((rng.randrange(max(0, k - 4), k), k) for k in range(1, 8)))
            web = called((tuple(range(8)), ties), rng.sample(range(100), 8))
            is_comb = form_of(spider()) not in held_forms(form_of(web), known)
            seen.add(is_comb)
            self.assertIs(is_kind("combs", web), is_comb)
        self.assertEqual(seen, {True, False})


def legs(leg):
    """One of three ways of seven places between 0 and 1."""
    inner = [2 + 7 * leg + k for k in range(7)]
    return [(0, inner[0])] + list(zip(inner, inner[1:])) + [(1, inner[-1])]


def subdivided_full4():
    """The full web of four with three places put into each tie."""
    ties = []
    following = 4
    for a, b in full(4)[1]:
        inner = [following, following + 1, following + 2]
        following += 3
        ties += [(a, inner[0]), (inner[0], inner[1]), (inner[1], inner[2]), (b, inner[2])]
    return (tuple(range(following)), tuple(sorted(ties)))


if __name__ == "__main__":
    unittest.main()
