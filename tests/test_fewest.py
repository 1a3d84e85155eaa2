import unittest

from plainbooks import Half, all_costs, cost, searched
from samples import all_forms, asked, called, holed
from drawnweb.booklooks import shows_book
from drawnweb.drawings import extra, row_of, shows_drawn
from drawnweb.fewest import fewest
from drawnweb.made import beside, both, diamond, full, grid, ring, row, star

NOTHING = ((), ())
OPEN = ("open", None)
ENOUGH = 2000


def loose(many):
    return (tuple(range(many)), ())


def plain_fewest(web, told, what, most):
    """By the words of point 18; and the most places that one of the searches asked."""
    (word, found), places = searched(Half(web, told, "any", None), most)
    asks = [len(places)]
    if word != "drawn":
        return (("barred", found) if word == "none" else OPEN), asks
    while word == "drawn":
        drawing = found
        lots = {h: set(lot) for h, lot in zip(told[0], drawing[0])}
        number = cost(web, told, what, lots)
        (word, found), places = searched(Half(web, told, what, number), most)
        asks.append(len(places))
    return (("least", number, drawing, found) if word == "none" else OPEN), asks


# Webs, told webs, the fewest draws and the fewest cuts.
KNOWN = [
    (ring(5), full(3), 2, 0), (full(3), full(3), 0, 0), (row(4), full(2), 0, 0), (full(4), loose(3), 0, 3), (full(4), row(4), 0, 3),
    (ring(4), loose(3), 0, 2), (ring(5), loose(3), 0, 1), (ring(6), ring(3), 3, 0), (star(4), loose(2), 0, 0), (full(5), ring(5), 0, 5),
    (row(4), row(3), 0, 0), (grid(2, 3), full(3), 1, 0), (full(1), full(1), 0, 0), (loose(3), loose(3), 0, 0), (full(2), loose(2), 0, 1),
    (holed(ring(5)), called(full(3), (9, 2, 40)), 2, 0), (both(3, 3), full(4), 2, 0), (grid(2, 3), diamond(), 2, 0),
    (beside(full(3), full(2)), beside(full(2), full(2)), 0, 0), (beside(full(3), full(2)), loose(4), 0, 2), (full(4), diamond(), 0, 1),
]
BARRED = [(row(4), full(3)), (ring(5), star(3)), (NOTHING, full(1)), (loose(4), full(2)), (full(4), full(5)), (star(3), row(4))]


class Fewest(unittest.TestCase):
    def test_known(self):
        for web, told, draws, cuts in KNOWN:
            for what, number in (("draws", draws), ("cuts", cuts)):
                answer = asked(self, fewest, web, told, what, ENOUGH)
                self.assertEqual(answer[:2], ("least", number))
                self.look(web, told, what, answer)

    def look(self, web, told, what, answer):
        """What point 18 says of an answer of the first sort."""
        word, number, drawing, book = answer
        self.assertIs(shows_drawn(web, told, drawing), True)
        self.assertIs(shows_book(web, told, what, number, book), True)
        told_row = row_of(web, told, drawing)
        if what == "draws":
            self.assertEqual(sum(map(len, drawing[0])) - len(told[0]), number)
            self.assertEqual(len([deed for deed in told_row if deed[0] == "draw"]), number)
        else:
            self.assertEqual(len(extra(web, told, drawing[0])), number)
            self.assertEqual(len([deed for deed in told_row if deed[0] == "cut"]), number)

    def test_written_out(self):
        self.assertEqual(asked(self, fewest, row(4), full(2), "draws", ENOUGH), ("least", 0, (((0,), (1,)), ((0, 1),)), ("dear",)))
        self.assertEqual(asked(self, fewest, full(1), full(1), "cuts", ENOUGH), ("least", 0, (((0,),), ()), ("dear",)))
        self.assertEqual(asked(self, fewest, full(2), loose(2), "cuts", ENOUGH), (
            "least", 1, (((0,), (1,)), ()),
            ("ask", 0, (("ask", 1, (("few",), ("dear",), ("few",))), ("few",)))))

    def test_barred(self):
        for web, told in BARRED:
            for what in ("draws", "cuts"):
                word, book = asked(self, fewest, web, told, what, ENOUGH)
                self.assertEqual(word, "barred")
                self.assertIs(shows_book(web, told, "any", None, book), True)
        self.assertEqual(fewest(NOTHING, full(1), "draws", 0), ("barred", ("few",)))

    def test_against_all_drawings(self):
        webs = [(tuple(range(many)), ties) for size in range(5) for many, ties in sorted(all_forms(size))]
        for web in webs + [ring(5), holed(both(2, 3))]:
            for told in [web for web in webs if 1 <= len(web[0]) <= 3]:
                for what in ("draws", "cuts"):
                    answer = fewest(web, told, what, ENOUGH)
                    costs = all_costs(web, told, what)
                    self.assertEqual(answer[:2], ("least", costs[0]) if costs else ("barred", answer[1]))
                    self.assertEqual(answer, plain_fewest(web, told, what, ENOUGH)[0])
                    if costs:
                        self.look(web, told, what, answer)

    def test_most_of_each_search(self):
        first, later, several = 0, 0, 0
        for web, told, _, _ in KNOWN:
            for what in ("draws", "cuts"):
                answer, asks = plain_fewest(web, told, what, ENOUGH)
                self.assertEqual(fewest(web, told, what, max(asks)), answer)
                self.assertEqual(asked(self, fewest, web, told, what, max(asks) - 1), OPEN)
                # Each search has the whole of most: together they may ask more.
                several += sum(asks) > max(asks)
                first += max(asks[1:]) < asks[0]
                later += max(asks[1:]) > asks[0]
        for web, told in BARRED:
            answer, asks = plain_fewest(web, told, "cuts", ENOUGH)
            self.assertEqual(fewest(web, told, "cuts", asks[0]), answer)
            if asks[0]:
                self.assertEqual(asked(self, fewest, web, told, "cuts", asks[0] - 1), OPEN)
        self.assertGreater(min(first, later, several), 0)

    def test_open_where_a_later_search_is(self):
        answer, asks = plain_fewest(grid(3, 3), full(4), "draws", 400)
        self.assertEqual(answer, OPEN)
        self.assertGreater(len(asks), 1)
        self.assertEqual(asked(self, fewest, grid(3, 3), full(4), "draws", 400), OPEN)

    def test_nine_places(self):
        for web, told, what, number in [(grid(3, 3), full(4), "cuts", 0), (ring(9), loose(5), "cuts", 1), (both(4, 5), full(4), "draws", 2),
                                        (row(9), row(5), "draws", 0), (star(8), star(4), "draws", 0)]:
            answer = asked(self, fewest, web, told, what, ENOUGH)
            self.assertEqual(answer[:2], ("least", number))
            self.look(web, told, what, answer)


if __name__ == "__main__":
    unittest.main()
