import random
import unittest

from plainbooks import CLOSINGS, Half, asks, is_drawn, leaves, put, sought
from samples import all_forms, asked, called, holed, nested, odd_things
from drawnweb.booklooks import shows_book

FULL2 = ((0, 1), ((0, 1),))
FULL3 = ((0, 1, 2), ((0, 1), (0, 2), (1, 2)))
ROW3 = ((0, 1, 2), ((0, 1), (1, 2)))
ROW4 = ((0, 1, 2, 3), ((0, 1), (1, 2), (2, 3)))
RING4 = ((0, 1, 2, 3), ((0, 1), (0, 3), (1, 2), (2, 3)))
RING5 = ((0, 1, 2, 3, 4), ((0, 1), (0, 4), (1, 2), (2, 3), (3, 4)))
STAR3 = ((0, 1, 2, 3), ((0, 1), (0, 2), (0, 3)))
PAIRS = ((0, 1, 2, 3), ((0, 1), (2, 3)))
LOOSE3 = ((0, 1, 2), ())
RING9 = (tuple(range(9)), tuple(sorted([(k, k + 1) for k in range(8)] + [(0, 8)])))
STAR8 = (tuple(range(9)), tuple((0, k) for k in range(1, 9)))
GRID33 = (tuple(range(9)), ((0, 1), (0, 3), (1, 2), (1, 4), (2, 5), (3, 4), (3, 6), (4, 5), (4, 7), (5, 8), (6, 7), (7, 8)))
FULL5 = (tuple(range(5)), tuple((a, b) for a in range(5) for b in range(a + 1, 5)))

# Webs, told webs and questions that have a book.
QUESTIONS = [
    (ROW3, FULL3, "any", None), (PAIRS, ROW3, "any", None), (ROW4, FULL3, "any", None), (RING4, STAR3, "any", None),
    (RING5, STAR3, "any", None), (STAR3, ROW4, "any", None), (holed(RING5), called(STAR3, (5, 60, 61, 99)), "any", None),
    (RING5, FULL3, "draws", 2), (ROW4, FULL2, "draws", 0), (RING4, ROW3, "draws", 0), (FULL3, LOOSE3, "cuts", 3),
    (RING4, LOOSE3, "cuts", 2), (RING4, ROW4, "cuts", 1), (holed(RING5), called(ROW4, (7, 8, 50, 98)), "draws", 0),
    (RING5, ((3, 9), ()), "cuts", 0), (STAR3, LOOSE3, "cuts", 0), (RING5, FULL3, "cuts", 0), (((), ()), FULL2, "any", None),
]


def books_of(question):
    """Some books for a question, asked and closed in several orders."""
    half = Half(*question)
    orders = [CLOSINGS, ("apart", "untied", "dear", "few"), ("dear", "untied", "few", "apart")]
    return half, [sought(half, words, pick) for words in orders for pick in (min, max)]


class Books(unittest.TestCase):
    def test_written_out(self):
        book = ("ask", 1, (("untied", 1, 2), ("few",)))
        self.assertIs(asked(self, shows_book, ROW3, FULL3, "any", None, book), True)
        for wrong in [
            ("ask", 1, (("untied", 1, 2),)), ("ask", 1, (("untied", 1, 2), ("few",), ("few",))),
            ("ask", 1, (("untied", 1, 2), ("untied", 1, 2), ("few",))), ("ask", 1, (("few",), ("untied", 1, 2))),
            ("ask", 1, (("untied", 0, 1), ("few",))), ("ask", 0, (("untied", 1, 2), ("few",))),
            ("ask", 3, (("untied", 1, 2), ("few",))), ("ask", -1, (("untied", 1, 2), ("few",))),
            ("ask", True, (("untied", 1, 2), ("few",))), ("ask", None, (("untied", 1, 2), ("few",))),
            ("ask", 1, [("untied", 1, 2), ("few",)]), ["ask", 1, (("untied", 1, 2), ("few",))],
            ("ask", 1, (["untied", 1, 2], ("few",))), ("ask", 1, (("untied", 1, 2), ["few"])),
            ("ask", 1, (("untied", True, 2), ("few",))), ("ask", 1, (("untied", 2, 1), ("few",))),
            ("ask", 1, (("untied", (1, 2)), ("few",))), ("ask", 1, (("untied", 1, 2, 2), ("few",))),
            ("ask", 1, (("untied", 1), ("few",))), ("ask", 1, (("untied",), ("few",))),
            ("ask", 1, (("untied", 1, 2), ("few", 0))), ("ask", 1, (("untied", 1, 2), "few")),
            ("ask", 1, (("untied", 1, 2), ("few", ()))), ("ask", 1, (("untied", 1, 2), (b"few",))),
            ("ask", 1, (("untied", 1, 2), ("Few",))), ("ask", 1, (("untied", 1, 2), ())),
            ("ask", 1, (("untied", 1, 2), None)), ("ask", 1, ()), ("ask", 1), ("ask",), ("ask", 1, None),
            ("ask", 1, (("untied", 1, 2), ("few",)), ()), ("asks", 1, (("untied", 1, 2), ("few",))),
            ("few",), ("untied", 1, 2), ("apart", 0), ("dear",), (book,), ("none", book), ("book", book),
        ]:
            self.assertIs(shows_book(ROW3, FULL3, "any", None, wrong), False, wrong)

    def test_few(self):
        for web, so in [(((), ()), True), (((4,), ()), True), (((4, 8), ((4, 8),)), True), (ROW3, False), (RING4, False)]:
            self.assertIs(asked(self, shows_book, web, FULL3, "any", None, ("few",)), so)

    def test_untied(self):
        told = ((2, 5, 6), ((2, 6),))
        self.assertIs(asked(self, shows_book, LOOSE3, told, "any", None, ("untied", 2, 6)), True)
        self.assertIs(asked(self, shows_book, ROW3, told, "any", None, ("untied", 2, 6)), False)
        for wrong in [("untied", 2, 5), ("untied", 5, 6), ("untied", 6, 2), ("untied", 0, 2), ("untied", 2, 7),
                      ("untied", 2, 2), ("untied", "2", "6"), ("untied", [2], 6), ("untied", None, None)]:
            self.assertIs(shows_book(LOOSE3, told, "any", None, wrong), False, wrong)

    def test_apart(self):
        half = Half(PAIRS, ROW3, "any", None)
        one = half.give(0, 0)
        self.assertEqual(one.choices(), [0, 1, 2, None])
        parts = [sought(one.give(2, h)) for h in (1, 2, None)]
        others = tuple(sought(half.give(0, h)) for h in (1, None))
        self.assertEqual(half.choices(), [0, 1, None])

        def book(closing):
            return ("ask", 0, (("ask", 2, (closing,) + tuple(parts)),) + others)

        self.assertIs(asked(self, shows_book, PAIRS, ROW3, "any", None, book(("apart", 0))), True)
        for wrong in [("apart", 1), ("apart", 2), ("apart", 3), ("apart",), ("apart", 0, 0), ("apart", False),
                      ("apart", None), ("apart", "0"), ("apart", (0,)), ("apart", [0]), ["apart", 0], ("few",)]:
            self.assertIs(shows_book(PAIRS, ROW3, "any", None, book(wrong)), False, wrong)

    def test_dear(self):
        for what in ("draws", "cuts"):
            self.assertIs(asked(self, shows_book, ROW3, FULL2, what, 0, ("dear",)), True)
            self.assertIs(asked(self, shows_book, ROW3, FULL2, what, 1, ("dear",)), False)
            self.assertIs(asked(self, shows_book, ROW3, FULL2, what, 0, ("dear", 0)), False)
        self.assertIs(asked(self, shows_book, ROW3, FULL2, "any", None, ("dear",)), False)

    def test_dear_counts_just_up_to_below(self):
        # Three lots in a ring of five need two draws.
        book = sought(Half(RING5, FULL3, "draws", 2))
        self.assertIn("dear", str(book))
        for below in (0, 1, 2):
            self.assertIs(asked(self, shows_book, RING5, FULL3, "draws", below, book), True)
        self.assertIs(shows_book(RING5, FULL3, "draws", 3, book), False)
        self.assertIs(shows_book(RING5, FULL3, "any", None, book), False)
        # No drawing of two untied told places in a full web without an extra pair.
        question = (FULL3, ((0, 1), ()), "cuts", 1)
        book = sought(Half(*question))
        self.assertIn("dear", str(book))
        self.assertIs(asked(self, shows_book, *question, book), True)
        self.assertIs(shows_book(FULL3, ((0, 1), ()), "cuts", 2, book), False)
        self.assertIs(shows_book(FULL3, ((0, 1), ()), "any", None, book), False)

    def test_twins_leave_branches_out(self):
        # Of three told places without ties each is the other's twin: one and None are open at first.
        book = ("ask", 0, (("few",), ("few",)))
        self.assertIs(asked(self, shows_book, ((0, 1), ()), LOOSE3, "any", None, book), True)
        for many in (1, 3, 4):
            self.assertIs(shows_book(((0, 1), ()), LOOSE3, "any", None, ("ask", 0, (("few",),) * many)), False)
        # The ends of a row are twins, its middle is none of theirs: two and None are open at first.
        self.assertIs(asked(self, shows_book, ((0, 1), ()), ROW3, "any", None, ("ask", 0, (("few",),) * 3)), True)
        self.assertIs(shows_book(((0, 1), ()), ROW3, "any", None, ("ask", 0, (("few",),) * 4)), False)
        # Once the first of twins has some, the later one is open, too.
        deeper = ("ask", 0, (("ask", 1, (("few",),) * 3), ("few",)))
        self.assertIs(asked(self, shows_book, ((0, 1), ()), LOOSE3, "any", None, deeper), True)
        # Of a row of four no two are twins but where exchanging keeps all ties: none here.
        self.assertIs(asked(self, shows_book, ((0, 1), ()), ROW4, "any", None, ("ask", 0, (("few",),) * 5)), True)
        # Tied told places are twins where all else is the same.
        self.assertIs(asked(self, shows_book, ((0, 1), ()), FULL3, "any", None, ("ask", 1, (("few",),) * 2)), True)

    def test_a_place_is_asked_once(self):
        web = ((0, 1), ())
        again = ("ask", 0, (("ask", 0, (("few",),) * 3), ("few",)))
        self.assertIs(shows_book(web, LOOSE3, "any", None, again), False)

    def test_made_books(self):
        words = set()
        for question in QUESTIONS:
            half, books = books_of(question)
            for book in books:
                self.assertIsNotNone(book, question)
                self.assertIs(asked(self, shows_book, *question, book), True)
                words |= {closing[0] for _, _, closing in leaves(half, book)}
        self.assertEqual(words, set(CLOSINGS))

    def test_each_closing_just_where_it_is_so(self):
        seen = set()
        for question in QUESTIONS:
            half, books = books_of(question)
            for book in books[:2]:
                for path, part, _ in list(leaves(half, book))[:60]:
                    for closing in part.every_closing():
                        so = part.is_so(closing)
                        seen.add((closing[0], question[2], so))
                        self.assertIs(shows_book(*question, put(book, path, closing)), so)
        for word in ("few", "apart", "untied"):
            self.assertLessEqual({(word, "any", True), (word, "any", False)}, seen)
        self.assertLessEqual({("dear", what, so) for what in ("draws", "cuts") for so in (True, False)}, seen)
        self.assertNotIn(("dear", "any", True), seen)

    def test_spoilt_askings(self):
        for question in QUESTIONS:
            half, books = books_of(question)
            for path, part, asking in list(asks(half, books[0]))[:25]:
                word, place, branches = asking
                taken = [other for other in question[0][0] if other not in part.free] + [-1, 100, None, str(place)]
                spoilt = [(word, other, branches) for other in taken]
                spoilt += [(word, place, list(branches)), list(asking), (word, place), asking + ((),)]
                spoilt += [(word, place, branches[:-1]), (word, place, branches[1:]), (word, place, branches[:1] + branches)]
                if place in (0, 1):
                    spoilt.append((word, bool(place), branches))
                for wrong in spoilt:
                    self.assertIs(shows_book(*question, put(books[0], path, wrong)), False)

    def test_branches_exchanged(self):
        seen = set()
        for question in QUESTIONS:
            half, books = books_of(question)
            for path, part, (word, place, branches) in list(asks(half, books[0]))[:25]:
                for at in range(len(branches) - 1):
                    turned = branches[:at] + (branches[at + 1], branches[at]) + branches[at + 2:]
                    so = plain_book(part, (word, place, turned))
                    seen.add(so)
                    self.assertIs(shows_book(*question, put(books[0], path, (word, place, turned))), so)
        self.assertEqual(seen, {True, False})

    def test_books_of_other_questions(self):
        rng = random.Random(16)
        made = [(question, book) for question in QUESTIONS for book in books_of(question)[1]]
        for _ in range(1500):
            question, _ = rng.choice(made)
            _, book = rng.choice(made)
            self.assertIs(shows_book(*question, book), plain_book(Half(*question), book))

    def test_great_books(self):
        for question in [(RING9, STAR3, "any", None), (RING9, FULL3, "draws", 6), (holed(STAR8), FULL3, "any", None)]:
            half = Half(*question)
            book = sought(half)
            self.assertIs(asked(self, shows_book, *question, book), True)
            path, part, _ = list(leaves(half, book))[-1]
            wrong = [closing for closing in part.every_closing() if not part.is_so(closing)][0]
            self.assertIs(shows_book(*question, put(book, path, wrong)), False)

    def test_where_a_drawing_is_no_closing_is_so_at_first(self):
        for closing in Half(GRID33, FULL3, "any", None).every_closing():
            self.assertIs(asked(self, shows_book, GRID33, FULL3, "any", None, closing), False)
        for closing in Half(FULL5, FULL5, "draws", 1).every_closing():
            self.assertIs(asked(self, shows_book, FULL5, FULL5, "draws", 1, closing), False)

    def test_of_anything(self):
        for thing in odd_things():
            for question in [(ROW3, FULL3, "any", None), (ROW3, FULL2, "draws", 2), (ROW3, FULL2, "cuts", 1)]:
                for wrong in [thing, (thing,), ("few", thing), ("dear", thing), ("apart", thing), ("untied", thing),
                              ("untied", thing, 1), ("untied", 0, thing), ("ask", 1, thing), ("ask", thing, ()),
                              ("ask", 1, (("untied", 1, 2), thing)), ("ask", 1, (thing, ("few",)))]:
                    self.assertIs(shows_book(*question, wrong), False)
            right = type(thing) is int and thing == 1
            self.assertIs(shows_book(ROW3, FULL3, "any", None, ("ask", thing, (("untied", 1, 2), ("few",)))), right)
            right = type(thing) is str and thing == "ask"
            self.assertIs(shows_book(ROW3, FULL3, "any", None, (thing, 1, (("untied", 1, 2), ("few",)))), right)

    def test_forty_deep(self):
        for wrap in (lambda x: ("ask", 1, (x, x)), lambda x: ("ask", 1, (x,)), lambda x: (x,), lambda x: [x],
                     lambda x: ("ask", x, (x, x)), lambda x: ("untied", x, x), lambda x: ("apart", x)):
            for core in (("few",), 0, (), None):
                self.assertIs(shows_book(ROW3, FULL3, "any", None, nested(wrap, core)), False)


def plain_book(half, thing):
    """Whether a thing that is built like a book is one of this half drawing."""
    if thing[0] != "ask":
        return thing in half.closings()
    _, place, books = thing
    choices = half.choices()
    return place in half.free and len(books) == len(choices) and all(
        plain_book(half.give(place, h), book) for h, book in zip(choices, books))


class SoThereIsNoDrawing(unittest.TestCase):
    def test_books_are_just_where_no_drawing_is(self):
        webs = [(tuple(range(many)), ties) for size in range(5) for many, ties in sorted(all_forms(size))]
        for web in webs:
            for told in [web for web in webs if 1 <= len(web[0]) <= 3]:
                for what, below in [("any", None), ("draws", 0), ("draws", 1), ("draws", 2), ("cuts", 0), ("cuts", 1), ("cuts", 2)]:
                    book = sought(Half(web, told, what, below))
                    self.assertEqual(book is None, is_drawn(web, told, what, below))
                    if book is not None:
                        self.assertIs(shows_book(web, told, what, below, book), True)


if __name__ == "__main__":
    unittest.main()
