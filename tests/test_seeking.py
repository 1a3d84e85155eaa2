import unittest

from plainbooks import Half, is_drawn, searched
from samples import all_forms, asked, called, holed
from drawnweb.booklooks import shows_book
from drawnweb.drawings import drawing_of, extra, shows_drawn
from drawnweb.made import beside, both, diamond, full, grid, ring, row, star
from drawnweb.seeking import sought

NOTHING = ((), ())
OPEN = ("open", None)
# A told web of five places no two of which are twins, and one with two pairs of twins.
BULL = ((0, 1, 2, 3, 4), ((0, 1), (0, 2), (1, 2), (1, 3), (2, 4)))
BOW = ((0, 1, 2, 3, 4), ((0, 1), (0, 2), (0, 3), (0, 4), (1, 2), (3, 4)))
WHATS = [("any", None), ("draws", 0), ("draws", 1), ("draws", 2), ("draws", 4), ("cuts", 0), ("cuts", 1), ("cuts", 2), ("cuts", 4)]
ENOUGH = 2000


def loose(many):
    return (tuple(range(many)), ())


def draws(drawing):
    return sum(len(lot) - 1 for lot in drawing[0])


# Webs and told webs, with twins and without, some drawn and some not.
PAIRS = [
    (NOTHING, full(1)), (NOTHING, full(2)), (((7,), ()), full(1)), (full(1), full(2)), (row(3), full(3)), (row(3), row(3)),
    (ring(5), full(3)), (ring(5), star(3)), (ring(4), ring(4)), (star(3), row(4)), (full(4), loose(4)), (full(4), full(5)),
    (holed(ring(5)), called(star(3), (5, 60, 61, 99))), (called(ring(5), (90, 3, 41, 40, 7)), called(full(3), (8, 2, 50))),
    (beside(row(3), row(3)), called(star(2), (4, 1, 9))), (grid(2, 3), diamond()), (grid(2, 3), BULL), (diamond(), row(3)),
    (both(2, 4), ring(4)), (full(5), ((3, 4, 9), ((3, 9),))), (loose(5), loose(5)), (loose(4), full(2)), (row(6), row(5)),
    (holed(grid(2, 3)), called(row(4), (7, 3, 70, 8))), (full(3), loose(2)), (both(3, 3), full(4)), (ring(6), BOW),
]


class Written(unittest.TestCase):
    """Answers worked out by hand."""

    def test_closed_at_once(self):
        self.assertEqual(asked(self, sought, NOTHING, full(1), "any", None, 0), ("none", ("few",)))
        self.assertEqual(asked(self, sought, full(4), full(5), "any", None, 0), ("none", ("few",)))
        self.assertEqual(asked(self, sought, loose(3), ((2, 5, 6), ((2, 6),)), "any", None, 0), ("none", ("untied", 2, 6)))
        self.assertEqual(asked(self, sought, full(2), full(2), "draws", 0, 0), ("none", ("dear",)))
        self.assertEqual(asked(self, sought, full(2), full(2), "cuts", 0, 0), ("none", ("dear",)))

    def test_the_order_of_the_closings(self):
        # Few, untied and dear are so at once; untied of each tie and dear are.
        self.assertEqual(asked(self, sought, loose(2), full(3), "draws", 0, 9), ("none", ("few",)))
        self.assertEqual(asked(self, sought, loose(3), full(3), "cuts", 0, 9), ("none", ("untied", 0, 1)))
        # Places 0 and 1 given to 0 are apart, and dear; 1 and 2 given to 1 are apart, and 0 and 2 untied then.
        told = ((0, 1, 2), ((0, 1), (0, 2)))
        book = asked(self, sought, ((0, 1, 2, 3), ((2, 3),)), told, "draws", 1, 99)[1]
        self.assertEqual(book[2][0], ("ask", 1, (
            ("apart", 0),
            ("ask", 2, (("apart", 0), ("apart", 1), ("untied", 0, 1), ("untied", 0, 1))),
            ("ask", 2, (("few",), ("untied", 0, 2), ("few",))),
        )))

    def test_a_book(self):
        # Of a full web's places, all twins, the first is open to place 0; then the second, too.
        self.assertEqual(asked(self, sought, row(3), full(3), "any", None, ENOUGH), ("none", (
            "ask", 0, (
                ("ask", 1, (
                    ("few",),
                    ("untied", 0, 2),
                    ("few",),
                )),
                ("few",),
            ))))

    def test_a_drawing(self):
        # Each told place is tried in order, None last: all that can go to the first one does.
        self.assertEqual(asked(self, sought, row(4), full(2), "any", None, ENOUGH), ("drawn", (((0, 1, 2), (3,)), ((2, 3),))))
        self.assertEqual(asked(self, sought, full(3), full(1), "any", None, ENOUGH), ("drawn", (((0, 1, 2),), ())))
        self.assertEqual(asked(self, sought, loose(3), full(1), "any", None, ENOUGH), ("drawn", (((0,),), ())))
        self.assertEqual(asked(self, sought, full(3), full(3), "any", None, ENOUGH), ("drawn", (((0,), (1,), (2,)), ((0, 1), (0, 2), (1, 2)))))
        # With draws below 1 the first two places can't go together, the last two neither.
        self.assertEqual(asked(self, sought, row(4), full(2), "draws", 1, ENOUGH), ("drawn", (((0,), (1,)), ((0, 1),))))
        self.assertEqual(asked(self, sought, ring(4), ((4, 9), ()), "cuts", 1, ENOUGH), ("drawn", (((0,), (2,)), ())))
        # Told places 5 and 9 are twins, so 5 has the lesser places; 7 is in the middle.
        told = ((5, 7, 9), ((5, 7), (7, 9)))
        self.assertEqual(asked(self, sought, ((2, 6, 8), ((2, 6), (2, 8))), told, "any", None, ENOUGH),
                         ("drawn", (((6,), (2,), (8,)), ((2, 6), (2, 8)))))

    def test_most(self):
        # Two places are asked for this book, four for this drawing.
        for most, so in [(0, False), (1, False), (2, True), (3, True), (2000, True)]:
            self.assertEqual(asked(self, sought, row(3), full(3), "any", None, most)[0], "none" if so else "open")
        for most, so in [(0, False), (1, False), (3, False), (4, True), (5, True), (2000, True)]:
            told = asked(self, sought, row(4), full(2), "any", None, most)
            self.assertEqual(told[0], "drawn" if so else "open")
            if not so:
                self.assertEqual(told, OPEN)


class ByTheWords(unittest.TestCase):
    def look(self, web, told, what, below, most=ENOUGH):
        """The answer, compared with the plain search, and looked at by the lookers."""
        plain, places = searched(Half(web, told, what, below), most)
        answer = sought(web, told, what, below, most)
        self.assertEqual(answer, plain)
        word, found = answer
        if word == "none":
            self.assertIs(shows_book(web, told, what, below, found), True)
        if word == "drawn":
            self.assertIs(shows_drawn(web, told, found), True)
            self.assertEqual(found, drawing_of(web, told, found[0]))
            if what != "any":
                self.assertLess(draws(found) if what == "draws" else len(extra(web, told, found[0])), below)
        return word, len(places)

    def test_pairs(self):
        words = set()
        for web, told in PAIRS:
            for what, below in WHATS:
                word, many = self.look(web, told, what, below)
                asked(self, sought, web, told, what, below, many)
                words.add((what, word))
        self.assertEqual(words, {(what, word) for what in ("any", "draws", "cuts") for word in ("drawn", "none")})

    def test_most_just_as_many_and_one_fewer(self):
        words = set()
        for web, told in PAIRS:
            for what, below in WHATS:
                (word, found), places = searched(Half(web, told, what, below), ENOUGH)
                many = len(places)
                words.add((word, many > 0))
                for most in (many, many + 1, 2000):
                    self.assertEqual(sought(web, told, what, below, most), (word, found))
                for most in sorted({0, many // 2, many - 1} & set(range(many))):
                    self.assertEqual(asked(self, sought, web, told, what, below, most), OPEN)
        self.assertEqual(words, {("drawn", True), ("none", True), ("none", False)})

    def test_all_small_webs(self):
        webs = [(tuple(range(many)), ties) for size in range(5) for many, ties in sorted(all_forms(size))]
        for web in webs:
            for told in [web for web in webs if 1 <= len(web[0]) <= 3]:
                for what, below in [("any", None), ("draws", 1), ("draws", 2), ("cuts", 1), ("cuts", 2)]:
                    word, _ = self.look(web, told, what, below)
                    self.assertEqual(word == "drawn", is_drawn(web, told, what, below))

    def test_told_webs_of_five_places(self):
        for web in [row(6), ring(6), grid(2, 3), full(6), both(2, 4), holed(both(3, 3)), beside(full(3), full(3))]:
            for told in [BULL, BOW, row(5), ring(5), star(4), full(5), loose(5), holed(BULL), called(BOW, (9, 8, 2, 1, 5))]:
                for what, below in [("any", None), ("draws", 1), ("cuts", 1), ("cuts", 2)]:
                    self.look(web, told, what, below, 60)

    def test_nine_places(self):
        for web, told, what, below, most in [
            (grid(3, 3), full(4), "any", None, 2000), (grid(3, 3), full(5), "any", None, 2000), (ring(9), star(3), "any", None, 300),
            (ring(9), full(3), "draws", 6, 300), (both(4, 5), row(4), "cuts", 2, 300), (holed(grid(3, 3)), BULL, "cuts", 1, 300),
            (full(9), loose(5), "cuts", 9, 300), (star(8), row(4), "any", None, 2000), (row(9), BULL, "any", None, 150),
        ]:
            self.look(web, told, what, below, most)

    def test_most_of_2000(self):
        # This search needs some thousands.
        self.assertEqual(asked(self, sought, row(9), BULL, "any", None, 2000), OPEN)


if __name__ == "__main__":
    unittest.main()
