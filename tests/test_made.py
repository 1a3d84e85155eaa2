import itertools
import unittest

from samples import asked
from drawnweb.made import beside, both, diamond, full, grid, ring, row, spider, star
from drawnweb.webs import is_web

NOTHING = ((), ())


class Made(unittest.TestCase):
    def test_full(self):
        self.assertEqual(asked(self, full, 0), NOTHING)
        self.assertEqual(asked(self, full, 1), ((0,), ()))
        self.assertEqual(asked(self, full, 2), ((0, 1), ((0, 1),)))
        self.assertEqual(asked(self, full, 4), ((0, 1, 2, 3), ((0, 1), (0, 2), (0, 3), (1, 2), (1, 3), (2, 3))))
        self.assertEqual(asked(self, full, 24), (tuple(range(24)), tuple(itertools.combinations(range(24), 2))))

    def test_row(self):
        self.assertEqual(asked(self, row, 0), NOTHING)
        self.assertEqual(asked(self, row, 1), ((0,), ()))
        self.assertEqual(asked(self, row, 4), ((0, 1, 2, 3), ((0, 1), (1, 2), (2, 3))))
        self.assertEqual(asked(self, row, 24), (tuple(range(24)), tuple((k, k + 1) for k in range(23))))

    def test_ring(self):
        self.assertEqual(asked(self, ring, 3), full(3))
        self.assertEqual(asked(self, ring, 4), ((0, 1, 2, 3), ((0, 1), (0, 3), (1, 2), (2, 3))))
        self.assertEqual(asked(self, ring, 24)[0], tuple(range(24)))
        self.assertEqual(asked(self, ring, 24)[1], tuple(sorted(row(24)[1] + ((0, 23),))))

    def test_star(self):
        self.assertEqual(asked(self, star, 0), ((0,), ()))
        self.assertEqual(asked(self, star, 1), full(2))
        self.assertEqual(asked(self, star, 3), ((0, 1, 2, 3), ((0, 1), (0, 2), (0, 3))))
        self.assertEqual(asked(self, star, 23), (tuple(range(24)), tuple((0, k) for k in range(1, 24))))

    def test_both(self):
        self.assertEqual(asked(self, both, 0, 0), NOTHING)
        self.assertEqual(asked(self, both, 0, 2), ((0, 1), ()))
        self.assertEqual(asked(self, both, 2, 0), ((0, 1), ()))
        self.assertEqual(asked(self, both, 1, 3), star(3))
        self.assertEqual(asked(self, both, 2, 3), ((0, 1, 2, 3, 4), ((0, 2), (0, 3), (0, 4), (1, 2), (1, 3), (1, 4))))
        self.assertEqual(asked(self, both, 3, 1), ((0, 1, 2, 3), ((0, 3), (1, 3), (2, 3))))
        self.assertEqual(asked(self, both, 2, 22)[1], tuple((a, b) for a in (0, 1) for b in range(2, 24)))

    def test_spider_and_diamond(self):
        self.assertEqual(asked(self, spider), (tuple(range(7)), ((0, 1), (0, 2), (0, 3), (1, 4), (2, 5), (3, 6))))
        self.assertEqual(asked(self, diamond), ((0, 1, 2, 3), ((0, 1), (0, 2), (0, 3), (1, 2), (1, 3))))

    def test_grid(self):
        self.assertEqual(asked(self, grid, 1, 1), ((0,), ()))
        self.assertEqual(asked(self, grid, 4, 1), row(4))
        self.assertEqual(asked(self, grid, 1, 4), row(4))
        self.assertEqual(asked(self, grid, 2, 2), ((0, 1, 2, 3), ((0, 1), (0, 2), (1, 3), (2, 3))))
        self.assertEqual(asked(self, grid, 3, 2), (tuple(range(6)), ((0, 1), (0, 3), (1, 2), (1, 4), (2, 5), (3, 4), (4, 5))))
        self.assertEqual(asked(self, grid, 2, 3), (tuple(range(6)), ((0, 1), (0, 2), (1, 3), (2, 3), (2, 4), (3, 5), (4, 5))))
        for wide, high in [(6, 4), (4, 6), (24, 1), (1, 24), (12, 2), (2, 12)]:
            at = [(r, c) for r in range(high) for c in range(wide)]
            ties = tuple((a, b) for a, b in itertools.combinations(range(24), 2)
                         if abs(at[a][0] - at[b][0]) + abs(at[a][1] - at[b][1]) == 1)
            self.assertEqual(asked(self, grid, wide, high), (tuple(range(24)), ties))

    def test_beside(self):
        self.assertEqual(asked(self, beside, NOTHING, NOTHING), NOTHING)
        holes = ((2, 5, 9), ((2, 9), (5, 9)))
        self.assertEqual(asked(self, beside, NOTHING, holes), holes)
        self.assertEqual(asked(self, beside, holes, NOTHING), holes)
        self.assertEqual(asked(self, beside, full(2), full(2)), ((0, 1, 2, 3), ((0, 1), (2, 3))))
        self.assertEqual(asked(self, beside, holes, full(2)), ((2, 5, 9, 10, 11), ((2, 9), (5, 9), (10, 11))))
        self.assertEqual(asked(self, beside, full(2), holes), ((0, 1, 4, 7, 11), ((0, 1), (4, 11), (7, 11))))
        self.assertEqual(asked(self, beside, ((3,), ()), ((4,), ())), ((3, 8), ()))
        self.assertEqual(asked(self, beside, ((49,), ()), ((49,), ())), ((49, 99), ()))
        self.assertEqual(asked(self, beside, row(12), row(12))[1], tuple((k, k + 1) for k in range(23) if k != 11))

    def test_made_webs_are_webs(self):
        made = [full(k) for k in range(25)] + [row(k) for k in range(25)] + [ring(k) for k in range(3, 25)]
        made += [star(k) for k in range(24)] + [both(a, b) for a in range(13) for b in range(13 - a, 25 - a)]
        made += [grid(a, b) for a in range(1, 25) for b in range(1, 25) if a * b <= 24] + [spider(), diamond()]
        for web in made:
            self.assertIs(is_web(web), True)
            self.assertEqual(web[0], tuple(range(len(web[0]))))
        for one, other in itertools.product([NOTHING, full(3), ((4, 40), ((4, 40),))], repeat=2):
            self.assertIs(is_web(beside(one, other)), True)


if __name__ == "__main__":
    unittest.main()
