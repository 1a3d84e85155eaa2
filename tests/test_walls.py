import itertools
import unittest

from plainpapers import plain_holds_on, plain_sides
from samples import all_forms, all_webs, asked, called, holed
from drawnweb.made import beside, both, diamond, full, grid, ring, row, star
from drawnweb.walls import holds_on, sides
from drawnweb.webs import is_web

NOTHING = ((), ())


class Sides(unittest.TestCase):
    def test_wall_of_none(self):
        self.assertEqual(asked(self, sides, NOTHING, ()), ())
        self.assertEqual(asked(self, sides, ring(5), ()), (ring(5),))
        self.assertEqual(asked(self, sides, beside(full(3), row(2)), ()), (full(3), ((3, 4), ((3, 4),))))
        self.assertEqual(asked(self, sides, ((4, 9), ()), ()), (((4,), ()), ((9,), ())))

    def test_wall_of_all(self):
        self.assertEqual(asked(self, sides, ring(5), (0, 1, 2, 3, 4)), ())
        self.assertEqual(asked(self, sides, ((7,), ()), (7,)), ())

    def test_wall_of_one_place(self):
        self.assertEqual(asked(self, sides, row(5), (2,)), (row(3), ((2, 3, 4), ((2, 3), (3, 4)))))
        self.assertEqual(asked(self, sides, row(5), (0,)), (row(5),))
        self.assertEqual(asked(self, sides, star(3), (0,)), (((0, 1), ((0, 1),)), ((0, 2), ((0, 2),)), ((0, 3), ((0, 3),))))
        # A piece that isn't tied to the wall has it beside itself all the same.
        self.assertEqual(asked(self, sides, ((1, 2, 8), ((1, 2),)), (8,)), (((1, 2, 8), ((1, 2),)),))
        self.assertEqual(asked(self, sides, ((1, 2, 8), ((1, 2),)), (1,)), (((1, 2), ((1, 2),)), ((1, 8), ())))

    def test_places_of_the_wall_that_are_not_tied(self):
        self.assertEqual(asked(self, sides, ring(6), (0, 3)), (
            ((0, 1, 2, 3), ((0, 1), (0, 3), (1, 2), (2, 3))), ((0, 3, 4, 5), ((0, 3), (0, 5), (3, 4), (4, 5)))))
        self.assertEqual(asked(self, sides, row(4), (0, 1, 3)), (((0, 1, 2, 3), ((0, 1), (0, 3), (1, 2), (1, 3), (2, 3))),))
        self.assertEqual(asked(self, sides, ((2, 5, 9), ()), (2, 9)), (((2, 5, 9), ((2, 9),)),))

    def test_sides_rise_by_their_pieces(self):
        # The piece of 1 comes ahead of the piece of 3, whatever the wall is called.
        web = ((1, 3, 6, 8), ((1, 8), (3, 6), (6, 8)))
        self.assertEqual(asked(self, sides, web, (6, 8)), (((1, 6, 8), ((1, 8), (6, 8))), ((3, 6, 8), ((3, 6), (6, 8)))))

    def test_great_webs(self):
        told = asked(self, sides, grid(4, 6), (8, 9, 10, 11))
        self.assertEqual([len(places) for places, _ in told], [12, 16])
        self.assertEqual(told, plain_sides(grid(4, 6), (8, 9, 10, 11)))
        web = holed(grid(4, 6))
        for wall in [web[0][:4], web[0][::6], web[0][::2], web[0][5:9], web[0][:23], web[0]]:
            self.assertEqual(asked(self, sides, web, wall), plain_sides(web, wall))

    def test_against_the_words(self):
        for web in list(map(holed, all_webs(4))) + [ring(6), grid(2, 3), holed(both(2, 4))]:
            for size in range(len(web[0]) + 1):
                for wall in itertools.combinations(web[0], size):
                    told = sides(web, wall)
                    self.assertEqual(told, plain_sides(web, wall))
                    self.assertTrue(all(is_web(side) for side in told))


class HoldsOn(unittest.TestCase):
    def test_known(self):
        for told, most in [
            (NOTHING, -1), (full(1), 0), (full(2), 1), (full(5), 4), (row(3), 0), (row(5), 0), (ring(3), 2), (ring(4), 1),
            (ring(5), 1), (star(4), 0), (both(2, 3), 1), (diamond(), 1), (((1, 2), ()), -1), (((1, 2, 8), ((1, 8),)), -1),
            (beside(full(3), full(2)), -1), (called(ring(5), (9, 1, 60, 2, 99)), 1),
            ((tuple(range(5)), tuple(tie for tie in full(5)[1] if tie != (1, 3))), 2),
        ]:
            for many in range(8):
                self.assertIs(asked(self, holds_on, told, many), many <= most, (told, many))

    def test_fewer_count_too(self):
        # Without both others one place is left, but without one of them two that aren't tied.
        self.assertIs(asked(self, holds_on, row(3), 2), False)
        self.assertIs(asked(self, holds_on, ((0, 1, 2), ()), 2), False)
        self.assertIs(asked(self, holds_on, ring(4), 3), False)

    def test_against_the_words(self):
        for size in range(6):
            for many_places, ties in sorted(all_forms(size)):
                for told in [(tuple(range(many_places)), ties), holed((tuple(range(many_places)), ties))]:
                    for many in range(size + 2):
                        self.assertIs(holds_on(told, many), plain_holds_on(told, many))

    def test_somewhat_greater(self):
        for told, most in [(full(11), 10), (full(24), 23), (grid(3, 3), 1), (ring(24), 1), (row(24), 0), (both(3, 6), 2)]:
            for many in sorted({0, 1, 2, most, most + 1, 24}):
                self.assertIs(asked(self, holds_on, told, many), many <= most, (told, many))


if __name__ == "__main__":
    unittest.main()
