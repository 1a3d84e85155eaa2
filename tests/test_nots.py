import random
import unittest

from plainpapers import WORDS, plain_kind
from samples import all_forms, asked, called, form_of, holed, refused
from test_kinds import JUST_BEYOND, comb, ladder_of_threes, loose, many_beside, rings_in_a_row, tie_more
from drawnweb.deeds import played
from drawnweb.drawings import row_of, shows_drawn
from drawnweb.errors import OfKind, WebError
from drawnweb.kinds import is_kind, kinds, never
from drawnweb.made import beside, both, diamond, full, grid, ring, row, spider, star
from drawnweb.nots import not_kind

NOTHING = ((), ())


class Nots(unittest.TestCase):
    def look(self, word, web):
        """The number told, its drawing looked at; the row by it leads to a web that the kind never holds."""
        number, drawing = asked(self, not_kind, word, web)
        self.assertIs(type(number), int)
        self.assertIn(number, range(len(never(word))))
        told = never(word)[number]
        self.assertIs(shows_drawn(web, told, drawing), True)
        self.assertEqual(form_of(played(web, row_of(web, told, drawing))), form_of(told))
        return number

    def of_kind(self, word, web):
        refused(self, OfKind, not_kind, word, web)

    def test_what_is_never_held(self):
        rng = random.Random(14)
        for word in WORDS:
            for number, web in enumerate(never(word)):
                self.assertEqual(self.look(word, web), number)
                for _ in range(5):
                    self.assertEqual(self.look(word, called(web, rng.sample(range(100), len(web[0])))), number)

    def test_one_of_two(self):
        for word, web, number in [
            ("hub", full(3), 0), ("hub", full(2), None), ("hub", row(4), 1), ("hub", beside(full(2), full(2)), 1), ("stars", row(4), 1),
            ("stars", full(3), 0), ("rows", star(9), 1), ("rows", ring(3), 0), ("combs", spider(), 1), ("combs", ring(12), 0),
            ("combs", holed(spider()), 1), ("rows", holed(spider()), 1), ("combs", beside(spider(), row(5)), 1), ("stars", row(12), 1),
        ]:
            if number is None:
                self.of_kind(word, web)
            else:
                self.assertEqual(self.look(word, web), number)

    def test_a_web_that_just_is_not(self):
        sizes = set()
        for word in WORDS:
            for web, tie in JUST_BEYOND[word]:
                if len(web[0]) <= 12:
                    self.of_kind(word, web)
                    self.look(word, tie_more(web, *tie))
                    self.look(word, holed(tie_more(web, *tie)))
                    sizes.add(word)
        self.assertEqual(sizes, set(WORDS))

    def test_twelve_places(self):
        for word, web, tie in [
            ("bare", loose(12), (3, 11)), ("pairs", many_beside(*[full(2)] * 6), (3, 4)), ("hub", star(11), (4, 9)), ("hub", beside(star(9), loose(2)), (10, 11)),
            ("stars", many_beside(star(3), star(3), star(3)), (1, 5)), ("stars", star(11), (7, 8)), ("rows", row(12), (0, 11)),
            ("rows", beside(row(11), loose(1)), (5, 11)), ("combs", comb(6), (6, 11)), ("combs", beside(row(10), row(2)), (4, 10)),
            ("forest", row(12), (2, 9)), ("forest", comb(6), (0, 5)), ("rings", ring(12), (0, 6)), ("rings", beside(rings_in_a_row(5), loose(1)), (0, 10)),
            ("series", ladder_of_threes(12), (0, 11)), ("series", grid(2, 6), (0, 11)), ("series", both(2, 10), (5, 9)),
        ]:
            self.of_kind(word, web)
            self.look(word, tie_more(web, *tie))
            self.look(word, called(tie_more(web, *tie), random.Random(len(word)).sample(range(100), 12)))

    def test_great_webs_of_no_kind(self):
        for web in [full(11), both(6, 6), grid(3, 4), holed(grid(4, 3)), (tuple(range(12)), full(12)[1][:60]), beside(full(6), full(6))]:
            self.assertEqual(kinds(web), ())
            for word in WORDS:
                self.look(word, web)

    def test_all_small_webs(self):
        for web in [(tuple(range(many)), ties) for size in range(7) for many, ties in sorted(all_forms(size))]:
            for word in WORDS:
                if plain_kind(word, web):
                    self.of_kind(word, web)
                else:
                    number, drawing = not_kind(word, web)
                    self.assertIs(shows_drawn(web, never(word)[number], drawing), True)

    def test_random_webs(self):
        rng = random.Random(15)
        told = refusals = 0
        for _ in range(60):
            many = rng.randrange(7, 13)
            tied = rng.choice((1, 2, 3, 5)) * many // 2
            every = [(a, b) for a in range(many) for b in range(a + 1, many)]
            web = called((tuple(range(many)), tuple(sorted(rng.sample(every, min(tied, len(every), 60))))), rng.sample(range(100), many))
            for word in WORDS:
                if is_kind(word, web):
                    refusals += 1
                    self.of_kind(word, web)
                else:
                    told += 1
                    self.look(word, web)
        self.assertGreater(min(told, refusals), 50)

    def test_the_refusal(self):
        self.assertEqual(OfKind.__bases__, (WebError,))
        for word in WORDS:
            self.of_kind(word, NOTHING)
            self.of_kind(word, ((99,), ()))
        for word, web in [("series", diamond()), ("rings", ring(12)), ("forest", spider()), ("combs", comb(6)), ("rows", row(12)), ("hub", star(11))]:
            self.of_kind(word, web)


if __name__ == "__main__":
    unittest.main()
