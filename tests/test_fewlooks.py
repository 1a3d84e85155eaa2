import itertools
import unittest

from plainbooks import Half, all_costs, drawn_by, sought
from samples import Prickly, all_forms, asked, nested, odd_things
from test_fewest import BARRED, KNOWN, loose
from drawnweb.drawings import drawing_of
from drawnweb.fewest import cost_of, fewest
from drawnweb.fewlooks import shows_fewest
from drawnweb.made import diamond, full, grid, ring, row, star

ENOUGH = 2000
WHATS = ("draws", "cuts")
OTHER = {"draws": "cuts", "cuts": "draws"}


def all_drawings(web, told):
    """A drawing for each lots there are."""
    for owners in itertools.product((None,) + told[0], repeat=len(web[0])):
        lots = {h: {place for place, owner in zip(web[0], owners) if owner == h} for h in told[0]}
        if all(lots.values()) and drawn_by(web, told, lots):
            yield drawing_of(web, told, tuple(tuple(sorted(lots[h])) for h in told[0]))


class Looks(unittest.TestCase):
    def so(self, web, told, what, thing):
        self.assertIs(asked(self, shows_fewest, web, told, what, thing), True, thing)

    def not_so(self, web, told, what, thing):
        self.assertIs(shows_fewest(web, told, what, thing), False, thing)


class Told(Looks):
    def test_what_fewest_tells(self):
        for web, told, draws, cuts in KNOWN:
            for what in WHATS:
                self.so(web, told, what, fewest(web, told, what, ENOUGH))

    def test_written_out(self):
        self.so(row(4), full(2), "draws", ("least", 0, (((2,), (3,)), ((2, 3),)), ("dear",)))
        self.so(row(4), full(2), "cuts", ("least", 0, (((0, 1, 2), (3,)), ((2, 3),)), ("dear",)))
        self.not_so(row(4), full(2), "draws", ("least", 2, (((0, 1, 2), (3,)), ((2, 3),)), ("dear",)))
        book = ("ask", 0, (("ask", 1, (("few",), ("dear",), ("few",))), ("few",)))
        self.so(full(2), loose(2), "cuts", ("least", 1, (((0,), (1,)), ()), book))
        self.so(full(2), loose(2), "cuts", ("least", 1, (((1,), (0,)), ()), book))

    def test_barred_and_open(self):
        for web, told in BARRED:
            for what in WHATS:
                answer = fewest(web, told, what, ENOUGH)
                self.assertEqual(answer[0], "barred")
                self.not_so(web, told, what, answer)
                self.not_so(web, told, what, ("open", None))
                self.not_so(web, told, what, ("least", 0, None, answer[1]))
                self.not_so(web, told, what, ("least", 0, ((), ()), answer[1]))
        self.not_so(ring(5), full(3), "draws", ("open", None))
        self.not_so(ring(5), full(3), "draws", ("barred", fewest(ring(5), full(3), "draws", ENOUGH)[3]))

    def test_other_drawings_and_other_books(self):
        several = 0
        for web, told in [(ring(5), full(3)), (full(4), row(3)), (full(4), loose(3)), (grid(2, 3), diamond()), (star(4), loose(2))]:
            for what in WHATS:
                word, number, first, book = fewest(web, told, what, ENOUGH)
                half = Half(web, told, what, number)
                books = [book, sought(half, pick=max), sought(half, words=("dear", "untied", "apart", "few")),
                         sought(half, pick=lambda free: free[len(free) // 2])]
                for drawing in all_drawings(web, told):
                    cost = cost_of(web, told, what, drawing)
                    for other in books:
                        self.assertIs(shows_fewest(web, told, what, (word, number, drawing, other)), cost == number)
                        # With the drawing's own number, too, the book must be one for it.
                        self.assertIs(shows_fewest(web, told, what, (word, cost, drawing, other)), cost == number)
                    several += cost == number and drawing != first
                self.assertGreater(len(set(books)), 1 if number else 0)
        self.assertGreater(several, 20)

    def test_a_drawing_with_other_ties(self):
        # Not the least ties, but ties between the lots.
        self.so(full(3), full(2), "cuts", ("least", 0, (((0, 1), (2,)), ((1, 2),)), ("dear",)))
        self.so(full(3), full(2), "cuts", ("least", 0, (((0, 1), (2,)), ((0, 2),)), ("dear",)))
        self.not_so(full(3), full(2), "cuts", ("least", 0, (((0, 1), (2,)), ((0, 1),)), ("dear",)))


class Otherwise(Looks):
    """Of what fewest tells one thing is otherwise."""

    def test_another_number(self):
        for web, told, draws, cuts in KNOWN:
            for what in WHATS:
                word, number, drawing, book = fewest(web, told, what, ENOUGH)
                for wrong in (number - 1, number + 1, -number - 1, 10 ** 30, -10 ** 30, str(number), None, (number,), [number]):
                    self.not_so(web, told, what, (word, wrong, drawing, book))
                if number < 2:
                    self.not_so(web, told, what, (word, bool(number), drawing, book))

    def test_a_drawing_of_another_number(self):
        more = drawing_of(full(4), row(2), ((0, 1), (2,)))
        self.not_so(full(4), row(2), "draws", ("least", 0, more, ("dear",)))
        self.not_so(full(4), row(2), "draws", ("least", 1, more, ("dear",)))
        self.so(full(4), row(2), "draws", ("least", 0, drawing_of(full(4), row(2), ((1,), (2,))), ("dear",)))

    def test_a_drawing_that_is_none(self):
        word, number, drawing, book = fewest(ring(5), full(3), "draws", ENOUGH)
        lots, ties = drawing
        for wrong in [
            (lots, ties[::-1]), (lots, ties[:-1]), (lots, ties + ties[:1]), (lots[:-1], ties), (lots + ((9,),), ties), lots, (lots,),
            (lots, ties, ()), [lots, ties], (list(lots), ties), (lots, list(ties)), (lots[1:] + lots[:1], ties), None, (),
            (tuple(map(list, lots)), ties), (tuple(lot[::-1] for lot in lots), ties), (((0, 2), (1,), (3, 4)), ties), (((), ) * 3, ties),
        ]:
            self.not_so(ring(5), full(3), "draws", (word, number, wrong, book))

    def test_a_book_that_is_none(self):
        for web, told, draws, cuts in KNOWN:
            for what in WHATS:
                word, number, drawing, book = fewest(web, told, what, ENOUGH)
                for wrong in [None, (), ("few",), ("ask", web[0][0], ()), ("book", book), (book,), list(book), book + ((),), drawing]:
                    self.not_so(web, told, what, (word, number, drawing, wrong))

    def test_a_book_for_another_below(self):
        word, number, drawing, book = fewest(ring(5), full(3), "draws", ENOUGH)
        self.assertEqual(number, 2)
        for below in (0, 1):
            lesser = sought(Half(ring(5), full(3), "draws", below))
            self.assertNotEqual(lesser, book)
            self.not_so(ring(5), full(3), "draws", (word, number, drawing, lesser))
        self.not_so(full(4), loose(3), "cuts", fewest(full(4), loose(3), "cuts", ENOUGH)[:3] + (sought(Half(full(4), loose(3), "cuts", 1)),))

    def test_the_other_what(self):
        for web, told, draws, cuts in KNOWN:
            if draws != cuts:
                for what in WHATS:
                    self.not_so(web, told, OTHER[what], fewest(web, told, what, ENOUGH))

    def test_the_word_and_the_parts(self):
        for web, told, draws, cuts in KNOWN:
            for what in WHATS:
                thing = fewest(web, told, what, ENOUGH)
                for word in ("Least", "least ", "", "fewest", "barred", "open", "drawn", b"least", None, 0, ("least",), ["least"]):
                    self.not_so(web, told, what, (word,) + thing[1:])
                for wrong in [thing[:3], thing[1:], thing + (None,), thing + ((),), list(thing), (thing,), thing[::-1],
                              (thing[0], thing[2], thing[1], thing[3]), (thing[0], thing[1], thing[3], thing[2]), ()]:
                    self.not_so(web, told, what, wrong)


class Anything(Looks):
    def test_of_anything(self):
        word, number, drawing, book = fewest(ring(5), full(3), "draws", ENOUGH)
        for thing in odd_things():
            for wrong in [
                thing, (thing,), (thing, number, drawing, book), (word, thing, drawing, book), (word, number, thing, book),
                (word, number, drawing, thing), (word, number, (thing, drawing[1]), book), (word, number, (drawing[0], thing), book),
                (word, number, ((thing,) + drawing[0][1:], drawing[1]), book), (thing,) * 4, (word, number, drawing, book, thing),
                (word, number, drawing, ("ask", 0, (thing, thing))),
            ]:
                self.assertIs(shows_fewest(ring(5), full(3), "draws", wrong), False)

    def test_forty_deep(self):
        word, number, drawing, book = fewest(ring(5), full(3), "draws", ENOUGH)
        for wrap in (lambda x: (x,), lambda x: [x], lambda x: {0: x}, lambda x: ("ask", 0, (x, x)), lambda x: ("least", 2, drawing, x),
                     lambda x: ("least", 2, x, book), lambda x: ("least", x, drawing, book), lambda x: (x, 2, drawing, book)):
            for core in (0, (), ("dear",), Prickly(), None, book):
                thing = nested(wrap, core)
                for wrong in (thing, (word, number, drawing, thing), (word, number, thing, book), (word, thing, drawing, book)):
                    self.assertIs(shows_fewest(ring(5), full(3), "draws", wrong), False)


class Whole(unittest.TestCase):
    def test_whatever_is_taken_is_the_fewest(self):
        """Whatever number a drawing has, only the fewest of all is taken with a book for it."""
        webs = [(tuple(range(many)), ties) for size in (2, 3, 4) for many, ties in sorted(all_forms(size))]
        for web in webs:
            for told in [web for web in webs if len(web[0]) < 4]:
                for what in WHATS:
                    costs = all_costs(web, told, what)
                    for drawing in list(all_drawings(web, told))[::3]:
                        number = cost_of(web, told, what, drawing)
                        book = sought(Half(web, told, what, number))
                        so = shows_fewest(web, told, what, ("least", number, drawing, book))
                        self.assertIs(so, number == costs[0])


if __name__ == "__main__":
    unittest.main()
