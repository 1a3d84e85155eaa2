import itertools
import random
import unittest

from plainbooks import Half, sought
from plainpapers import WORDS, is_held, plain_barred, plain_sides
from samples import Prickly, all_forms, asked, called, holed, nested, odd_things
from drawnweb.barlooks import shows_barred
from drawnweb.made import beside, both, diamond, full, grid, ring, row, spider, star

NOTHING = ((), ())
FOURS = called(full(4), (3, 20, 21, 99))


def loose(many):
    return (tuple(range(many)), ())


def book_of(web, told):
    """A paper of a book, asked and closed by the words; None where there is a drawing."""
    book = sought(Half(web, told, "any", None))
    return None if book is None else ("book", book)


class Papers(unittest.TestCase):
    def bars(self, web, told, paper):
        self.assertIs(asked(self, shows_barred, web, told, paper), True)

    def lets(self, web, told, paper):
        self.assertIs(asked(self, shows_barred, web, told, paper), False)


class Count(Papers):
    def test_more_places(self):
        self.bars(NOTHING, full(1), ("count",))
        self.bars(full(4), loose(5), ("count",))
        self.lets(full(5), loose(5), ("count",))
        self.lets(full(6), loose(5), ("count",))

    def test_more_ties(self):
        self.bars(row(4), ring(4), ("count",))
        self.bars(holed(row(10)), full(5), ("count",))
        self.lets(holed(row(11)), full(5), ("count",))
        self.bars(beside(full(3), loose(20)), star(4), ("count",))
        self.lets(ring(4), ring(4), ("count",))
        self.lets(full(4), ring(4), ("count",))
        # As many of both, however they stand.
        self.lets(beside(full(3), full(1)), star(3), ("count",))

    def test_its_form(self):
        for wrong in [("count", 0), ("count", ()), ["count"], "count", ("Count",), ("count", "count"), (b"count",), ("counts",)]:
            self.assertIs(shows_barred(NOTHING, full(1), wrong), False)


class Kind(Papers):
    # For each word a web of the kind, one just beyond, and a told web that isn't of it.
    ROWS = {
        "bare": (loose(24), beside(full(2), loose(22)), full(2)),
        "pairs": (beside(full(2), full(2)), beside(row(3), full(2)), row(3)),
        "hub": (star(23), beside(star(5), full(2)), beside(full(2), full(2))),
        "stars": (beside(star(11), star(11)), row(12), row(4)),
        "rows": (row(24), star(20), star(3)),
        "combs": (star(23), spider(), full(3)),
        "forest": (beside(spider(), row(17)), ring(24), ring(5)),
        "rings": (ring(24), diamond(), called(diamond(), (5, 70, 2, 9))),
        "series": (both(2, 22), grid(3, 8), FOURS),
    }

    def test_bars_just_where(self):
        for word, (web, beyond, told) in self.ROWS.items():
            self.bars(web, told, ("kind", word))
            self.bars(holed(web), told, ("kind", word))
            self.lets(beyond, told, ("kind", word))
            self.lets(web, loose(2), ("kind", word))
            self.lets(web, full(1), ("kind", word))
        self.assertEqual(tuple(self.ROWS), WORDS)

    def test_told_web_of_the_kind(self):
        self.lets(row(24), row(5), ("kind", "rows"))
        self.lets(row(24), ((0, 1, 2, 3, 4), ((0, 1), (2, 3))), ("kind", "forest"))
        self.lets(ring(24), full(3), ("kind", "rings"))
        self.bars(row(24), full(3), ("kind", "rows"))

    def test_its_form(self):
        for wrong in [("kind",), ("kind", "forests"), ("kind", ""), ("kind", "Forest"), ("kind", b"forest"), ("kind", ["forest"]),
                      ("kind", ("forest",)), ("kind", "forest", ()), ("kind", "forest", "forest"), ["kind", "forest"],
                      ("kind", None), ("kind", 0), ("kind", True), ("kinds", "forest"), ("forest",), ("kind forest",),
                      ("kind", {"forest": 1}), ("kind", {"forest"})]:
            self.assertIs(shows_barred(row(5), full(3), wrong), False, wrong)


class Orders(Papers):
    def test_width(self):
        # The order along a row has width 1, from its middle on 2; full(3) has least width 2.
        self.bars(row(5), full(3), ("width", (0, 1, 2, 3, 4)))
        self.bars(row(24), full(3), ("width", tuple(range(24))))
        self.lets(row(5), full(3), ("width", (1, 2, 0, 3, 4)))
        self.bars(row(5), full(4), ("width", (1, 2, 0, 3, 4)))
        self.lets(row(5), star(3), ("width", (0, 1, 2, 3, 4)))
        self.bars(grid(3, 8), full(5), ("width", tuple(range(24))))
        self.lets(grid(4, 6), full(5), ("width", tuple(range(24))))
        self.bars(NOTHING, full(2), ("width", ()))
        self.lets(NOTHING, full(1), ("width", ()))

    def test_spread(self):
        self.bars(row(5), full(3), ("spread", (0, 1, 2, 3, 4)))
        self.lets(row(5), full(3), ("spread", (0, 2, 4, 1, 3)))
        self.bars(row(5), full(5), ("spread", (0, 2, 4, 1, 3)))
        self.bars(star(23), full(3), ("spread", tuple(range(24))))
        self.lets(star(23), full(3), ("width", tuple(range(24))))
        self.lets(star(23), full(3), ("spread", tuple(range(24))[::-1]))
        self.bars(star(23), full(3), ("width", tuple(range(24))[::-1]))
        self.bars(grid(3, 8), full(5), ("spread", tuple(range(24))))
        self.lets(grid(4, 6), full(5), ("spread", tuple(range(24))))

    def test_told_web_of_greater_spread_than_width(self):
        # The spider has least width 1 and least spread 2.
        self.bars(row(9), spider(), ("spread", tuple(range(9))))
        self.lets(row(9), spider(), ("width", tuple(range(9))))

    def test_its_form(self):
        for word in ("width", "spread"):
            self.bars(row(3), full(3), (word, (0, 1, 2)))
            for wrong in [
                (0, 1), (0, 1, 2, 3), (0, 1, 1), (0, 1, 2, 2), (), (0, 1, 3), [0, 1, 2], (0, True, 2), (False, 1, 2), "012",
                ("0", "1", "2"), (0, 1, None), (0, 1, (2,)), None, {0: 1}, range(3), (0, 1, -1), ((0, 1, 2),),
            ]:
                self.assertIs(shows_barred(row(3), full(3), (word, wrong)), False, wrong)
            for wrong in [(word,), (word, (0, 1, 2), ()), (word, 0, 1, 2), [word, (0, 1, 2)], (word + " ", (0, 1, 2))]:
                self.assertIs(shows_barred(row(3), full(3), wrong), False, wrong)
            self.bars(holed(row(4)), full(3), (word, called_order(row(4))))


def called_order(web):
    """The order of the web's places from 0 on, under the names that holed gives."""
    return tuple(98 - 4 * k if k % 2 else 3 + 4 * k for k in range(len(web[0])))


class Walls(Papers):
    def test_wall_of_none(self):
        web = beside(row(3), full(3))
        count = ("count",)
        self.bars(web, FOURS, ("wall", (), (count, count)))
        # Two pieces have just three ties together, which count alone doesn't see.
        self.lets(beside(full(3), full(3)), FOURS, count)
        self.bars(beside(full(3), full(3)), FOURS, ("wall", (), (count, count)))
        self.lets(beside(full(3), full(4)), FOURS, ("wall", (), (count, count)))
        # A told web that doesn't hang together holds on without none.
        self.lets(beside(full(3), full(3)), ((0, 1, 2, 3), ((0, 1),)), ("wall", (), (count, count)))
        self.bars(NOTHING, full(1), ("wall", (), ()))
        self.bars(loose(24), full(2), ("wall", (), (count,) * 24))

    def test_wall_of_all(self):
        for told, web, so in [(full(4), full(3), True), (full(4), loose(3), True), (full(4), full(4), False), (ring(4), row(3), False),
                              (ring(4), row(2), False), (ring(4), full(1), True), (row(3), full(2), False), (full(5), full(4), True)]:
            self.assertIs(asked(self, shows_barred, web, told, ("wall", web[0], ())), so)

    def test_a_wall_across(self):
        # Rings with places in common one behind another: each side of such a place is a ring.
        web = (tuple(range(7)), ((0, 1), (0, 2), (1, 2), (2, 3), (2, 4), (3, 4), (4, 5), (4, 6), (5, 6)))
        count = ("count",)
        self.bars(web, ring(4), ("wall", (2,), (count, ("wall", (4,), (count, count)))))
        self.lets(web, ring(4), ("wall", (2,), (count, count)))
        self.lets(web, ring(4), ("wall", (2,), (count, ("wall", (4,), (count,)))))
        self.lets(web, ring(4), ("wall", (2,), (count, ("wall", (4,), (count, count, count)))))
        self.lets(web, ring(4), ("wall", (2,), (("wall", (4,), (count, count)), count)))
        self.bars(web, diamond(), ("wall", (2,), (("kind", "rings"), ("kind", "rings"))))
        # Rows of four fall apart without one place: no wall of one place bars them.
        self.lets(web, row(4), ("wall", (2,), (count, ("wall", (4,), (count, count)))))

    def test_wall_of_two(self):
        web = grid(2, 12)
        self.bars(web, FOURS, ("wall", (10, 11), (("kind", "series"), ("kind", "series"))))
        self.bars(web, FOURS, ("wall", (10, 11), (("width", tuple(range(12))), ("spread", tuple(range(10, 24))))))
        self.lets(web, FOURS, ("wall", (10, 11), (("width", tuple(range(12))), ("spread", tuple(range(11, 24))))))
        self.lets(web, diamond(), ("wall", (10, 11), (("kind", "series"), ("kind", "series"))))

    def test_places_of_the_wall_are_tied_in_the_sides(self):
        # Across the ring of six the wall's tie makes rings of four, in which no full(4) is; but a diamond
        # is in a ring with a tie across.
        self.bars(ring(6), FOURS, ("wall", (0, 3), (("kind", "rings"), ("kind", "series"))))
        self.lets(diamond(), ring(4), ("wall", (2, 3), (("count",), ("count",))))
        self.lets(both(2, 3), full(3), ("wall", (0, 1), (("kind", "forest"),) * 3))
        self.bars(both(2, 3), FOURS, ("wall", (0, 1), (("count",),) * 3))

    def test_its_form(self):
        count = ("count",)
        web = beside(full(3), full(3))
        self.bars(web, FOURS, ("wall", (), (count, count)))
        for wrong in [
            ("wall", (), [count, count]), ("wall", [], (count, count)), ["wall", (), (count, count)], ("wall", (), (count,)),
            ("wall", (), (count, count, count)), ("wall", (), ()), ("wall", ()), ("wall",), ("wall", (), (count, count), ()),
            ("wall", None, (count, count)), ("wall", "", (count, count)), ("wall", 0, (count, count)), ("wall", (), None),
            ("wall", (), count), ("wall", (), (count, ["count"])), ("wall", (), (count, None)), ("wall", (), (count, "count")),
            ("Wall", (), (count, count)), ("wall", (), (count, ())), ("wall", (), (count, (count,))), ("walls", (), (count, count)),
        ]:
            self.assertIs(shows_barred(web, FOURS, wrong), False, wrong)

    def test_what_is_no_wall(self):
        count = ("count",)
        self.bars(ring(6), FOURS, ("wall", (0, 3), (("kind", "rings"),) * 2))
        for wall in [(3, 0), (0, 0), (0, 3, 3), (0, 6), (-1, 0), [0, 3], (False, 3), (0, "3"), ("0", "3"), (0, None), ((0, 3),), "03",
                     {0, 3}, {0: 3}, (0, (3,))]:
            for many in (1, 2, 3):
                self.assertIs(shows_barred(ring(6), FOURS, ("wall", wall, (("kind", "rings"),) * many)), False, wall)
        self.lets(loose(3), FOURS, ("wall", (0, 1, 2, 3), ()))
        self.lets(full(4), full(5), ("wall", (0, 1, 2, 4), (count,)))

    def test_walls_within_walls(self):
        # A row cut place by place, each wall of one place within the last one's side.
        for many in (5, 12, 18):
            paper = ("count",)
            for place in range(many - 2, 0, -1):
                paper = ("wall", (place,), (("count",), paper))
            self.bars(row(many), full(3), paper)
            self.lets(row(many), row(3), paper)
            spoilt = str(paper).replace(f"({many - 2},)", f"({many - 1},)")
            self.assertIs(shows_barred(row(many), full(3), eval(spoilt)), False)
        # A wall that leaves one side leaves the whole web.
        paper = ("kind", "forest")
        for _ in range(17):
            paper = ("wall", (), (paper,))
        self.bars(row(24), full(3), paper)
        self.lets(ring(24), full(3), paper)


class Books(Papers):
    def test_books_of_what_any(self):
        for web, told in [(ring(5), star(3)), (holed(ring(6)), called(star(3), (9, 1, 40, 2))), (grid(2, 3), FOURS),
                          (beside(full(3), full(3)), ring(4)), (NOTHING, full(2)), (ring(7), star(3))]:
            paper = book_of(web, told)
            self.bars(web, told, paper)
            for wrong in [("book",), ("book", paper), paper[1], ("book", paper[1], ()), list(paper), ("book", list(paper[1])),
                          ("book", (paper[1],)), ("book", ("none", paper[1])), ("Book", paper[1]), ("book", None)]:
                self.assertIs(shows_barred(web, told, wrong), False)
        self.lets(ring(5), full(3), book_of(ring(5), star(3)))

    def test_nothing_is_dear(self):
        dear = sought(Half(ring(5), full(3), "draws", 2))
        self.assertIn("dear", str(dear))
        self.lets(ring(5), full(3), ("book", dear))
        self.lets(ring(5), full(3), ("book", ("dear",)))

    def test_nine_places_and_ten(self):
        self.bars(loose(9), full(2), ("book", ("untied", 0, 1)))
        self.lets(loose(10), full(2), ("book", ("untied", 0, 1)))
        self.lets(loose(24), full(2), ("book", ("untied", 0, 1)))
        # In a side that has few enough places the book is one.
        self.bars(loose(10), full(2), ("wall", (), (("book", ("few",)),) * 10))
        web = beside(ring(6), ring(6))
        book = book_of(ring(6), star(3))
        second = book_of(plain_sides(web, ())[1], star(3))
        self.bars(web, star(3), ("wall", (), (book, second)))
        self.lets(web, star(3), ("wall", (), (second, book)))
        ten = (tuple(range(10)), ring(5)[1])
        self.lets(ten, star(3), ("book", sought(Half((tuple(range(6)), ring(5)[1]), star(3), "any", None))))


class Anything(Papers):
    def test_of_anything(self):
        web, told = beside(full(3), full(3)), FOURS
        for thing in odd_things():
            none = type(thing) is tuple and len(thing) == 0
            place = type(thing) is int and thing in range(6)
            papers = (("count",), ("count",))
            for wrong, so in [
                (thing, False), ((thing,), False), ((thing, ()), False), ((thing, (), papers), False), (("count", thing), False),
                (("kind", thing), False), (("kind", (thing,)), False), (("width", thing), False), (("width", (thing,) * 6), False),
                (("spread", thing), False), (("spread", (0, 1, 2, 3, 4, thing)), False), (("book", thing), False),
                (("book", (thing,)), False), (("book", ("ask", thing, ())), False), (("wall", thing), False),
                (("wall", thing, ()), False), (("wall", thing, papers), none), (("wall", (thing,), papers), place),
                (("wall", (), thing), False), (("wall", (), papers, thing), False), (("wall", (), (("count",), thing)), False),
            ]:
                self.assertIs(shows_barred(web, told, wrong), so)

    def test_forty_deep(self):
        for wrap in (lambda x: (x,), lambda x: [x], lambda x: ("wall", (), x), lambda x: ("wall", x, ()), lambda x: ("kind", x),
                     lambda x: ("book", x), lambda x: ("width", x), lambda x: (x, x), lambda x: ("wall", (), (x, x)),
                     lambda x: ("wall", (0,), (x,))):
            for core in (0, (), ("few",), Prickly(), None):
                self.assertIs(shows_barred(row(5), full(3), nested(wrap, core)), False)
        for core in (0, (), ("few",), Prickly(), None, ("kind", "rings")):
            self.assertIs(shows_barred(row(5), full(3), nested(lambda x: ("wall", (), (x,)), core, 19)), False)


def some_paper(rng, web, deep):
    """A thing built like a paper, at random; it may bar or not."""
    sort = rng.choice(["count", "kind", "kind", "width", "spread", "book"] + ["wall"] * 4 * (deep > 0))
    if sort == "kind":
        return (sort, rng.choice(WORDS))
    if sort in ("width", "spread"):
        return (sort, tuple(rng.sample(web[0], len(web[0]))))
    if sort == "book":
        return (sort, rng.choice([("few",), ("untied", 0, 1), ("untied", 1, 2), ("apart", 0)]))
    if sort == "wall":
        wall = tuple(sorted(rng.sample(web[0], rng.randrange(min(len(web[0]), 3) + 1))))
        return (sort, wall, tuple(some_paper(rng, side, deep - 1) for side in plain_sides(web, wall)))
    return (sort,)


class Whole(unittest.TestCase):
    def test_what_is_barred_is_never_led_to(self):
        rng = random.Random(20)
        tolds = [(tuple(range(many)), ties) for size in (1, 2, 3, 4) for many, ties in sorted(all_forms(size))]
        webs = [(tuple(range(many)), ties) for size in (0, 3, 4, 5) for many, ties in sorted(all_forms(size))]
        webs += [ring(6), grid(2, 3), beside(full(3), full(3)), both(2, 4)]
        seen = {}
        for web, told in itertools.product(webs, tolds):
            held = is_held(web, told)
            for _ in range(12):
                paper = some_paper(rng, web, 2)
                so = shows_barred(web, told, paper)
                self.assertIs(so, plain_barred(web, told, paper), (web, told, paper))
                self.assertFalse(so and held, (web, told, paper))
                seen.setdefault((paper[0], so), 0)
                seen[paper[0], so] += 1
        for word in ("count", "kind", "width", "spread", "wall", "book"):
            self.assertGreater(seen[word, True], 20, word)
            self.assertGreater(seen[word, False], 20, word)

    def test_each_that_is_not_held_is_barred_by_a_book(self):
        tolds = [(tuple(range(many)), ties) for size in (1, 2, 3) for many, ties in sorted(all_forms(size))]
        webs = [(tuple(range(many)), ties) for size in range(5) for many, ties in sorted(all_forms(size))]
        for web, told in itertools.product(webs, tolds):
            paper = book_of(web, told)
            self.assertEqual(paper is None, is_held(web, told))
            if paper is not None:
                self.assertIs(shows_barred(web, told, paper), True)


if __name__ == "__main__":
    unittest.main()
