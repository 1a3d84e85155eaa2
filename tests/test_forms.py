import itertools
import random
import unittest

from samples import all_forms, all_webs, asked, called, form_of, held_forms, holed
from drawnweb.deeds import deeds, done
from drawnweb.forms import alike, form, held, renamed, small
from drawnweb.made import beside, both, diamond, full, grid, ring, row, spider, star
from drawnweb.seeking import sought
from drawnweb.webs import is_web

NOTHING = ((), ())
ONE = ((0,), ())
# Two webs with the same places, the same number of ties and, for each place, as many ties, that aren't alike.
RINGS = (ring(6), beside(ring(3), ring(3)))
PAWS = (((0, 1, 2, 3), ((0, 1), (0, 2), (1, 2), (2, 3))), ((0, 1, 2, 3), ((0, 1), (0, 3), (1, 2), (1, 3))))


def loose(many):
    return (tuple(range(many)), ())


def plain_alike(one, other):
    """The least of all names that rename one to other."""
    return next((names for names in itertools.permutations(other[0]) if called(one, names) == other), None)


class Renamed(unittest.TestCase):
    def test_written_out(self):
        for web, names, other in [
            (NOTHING, (), NOTHING), (ONE, (99,), ((99,), ())), (ONE, (0,), ONE),
            (row(3), (0, 1, 2), row(3)), (row(3), (4, 50, 99), ((4, 50, 99), ((4, 50), (50, 99)))),
            (row(3), (99, 50, 4), ((4, 50, 99), ((4, 50), (50, 99)))), (row(3), (7, 3, 5), ((3, 5, 7), ((3, 5), (3, 7)))),
            (((3, 8, 9), ((3, 9),)), (1, 0, 2), ((0, 1, 2), ((1, 2),))), (((3, 8, 9), ((3, 9),)), (9, 8, 3), ((3, 8, 9), ((3, 9),))),
            (star(3), (3, 2, 1, 0), ((0, 1, 2, 3), ((0, 3), (1, 3), (2, 3)))),
        ]:
            self.assertEqual(asked(self, renamed, web, names), other)

    def test_against_plain(self):
        rng = random.Random(8)
        for web in [ring(5), grid(4, 6), both(4, 15), holed(spider()), full(11), loose(24), holed(grid(3, 4))]:
            for names in [tuple(range(len(web[0]))), tuple(range(99, 99 - len(web[0]), -1))] + [
                    tuple(rng.sample(range(100), len(web[0]))) for _ in range(10)]:
                other = asked(self, renamed, web, names)
                self.assertIs(is_web(other), True)
                self.assertEqual(other, called(web, names))
                at = dict(zip(web[0], names))
                back = {name: place for place, name in at.items()}
                self.assertEqual(renamed(other, tuple(back[name] for name in other[0])), web)


class Alike(unittest.TestCase):
    def test_written_out(self):
        for one, other, names in [
            (NOTHING, NOTHING, ()), (ONE, ((7,), ()), (7,)), (NOTHING, ONE, None), (ONE, NOTHING, None),
            (row(3), ((2, 5, 9), ((2, 5), (2, 9))), (5, 2, 9)), (row(3), row(3), (0, 1, 2)), (row(3), row(4), None),
            (row(4), star(3), None), (full(3), row(3), None), (row(3), full(3), None), (loose(2), full(2), None),
            (loose(3), ((4, 8, 9), ()), (4, 8, 9)), (ring(4), both(2, 2), (0, 2, 1, 3)), (full(3), ((1, 2, 3), ((1, 2), (1, 3), (2, 3))), (1, 2, 3)),
            (star(3), ((0, 1, 2, 3), ((0, 3), (1, 3), (2, 3))), (3, 0, 1, 2)), PAWS + ((0, 3, 1, 2),),
            (beside(full(2), full(1)), ((0, 1, 2), ((1, 2),)), (1, 2, 0)), RINGS + (None,), (RINGS[1], RINGS[0], None),
        ]:
            self.assertEqual(asked(self, alike, one, other), names)

    def test_seven_places(self):
        rng = random.Random(7)
        sevens = [spider(), ring(7), full(7), loose(7), row(7), both(3, 4), star(6), beside(ring(3), ring(4)), beside(ring(3), row(4))]
        for one, other in itertools.product(sevens, repeat=2):
            other = called(other, rng.sample(range(100), 7))
            names = asked(self, alike, one, other)
            self.assertEqual(names is None, form_of(one) != form_of(other))
            if names is not None:
                self.assertEqual(called(one, names), other)
        for web in (spider(), both(3, 4), beside(ring(3), ring(4))):
            other = called(web, rng.sample(range(100), 7))
            self.assertEqual(alike(web, other), plain_alike(web, other))

    def test_against_all_names(self):
        webs = [web for many in range(5) for web in all_webs(many)]
        for one in webs[::3]:
            for other in webs[::2]:
                if len(one[0]) == len(other[0]):
                    other = holed(other)
                    self.assertEqual(alike(one, other), plain_alike(one, other))
                else:
                    self.assertIsNone(alike(one, other))

    def test_the_least_of_several(self):
        rng = random.Random(9)
        for web in [ring(6), grid(2, 3), both(2, 4), both(3, 3), star(5), beside(full(3), full(3)), diamond(), row(5)]:
            for _ in range(5):
                one = called(web, rng.sample(range(100), len(web[0])))
                other = called(web, rng.sample(range(100), len(web[0])))
                names = asked(self, alike, one, other)
                self.assertEqual(names, plain_alike(one, other))
                self.assertEqual(renamed(one, names), other)


class Form(unittest.TestCase):
    def test_written_out(self):
        for web, told in [
            (NOTHING, NOTHING), (((99,), ()), ONE), (((5, 9), ((5, 9),)), full(2)), (((5, 9), ()), loose(2)),
            (row(3), ((0, 1, 2), ((0, 1), (0, 2)))), (((2, 3, 4), ((3, 4),)), ((0, 1, 2), ((0, 1),))),
            (row(4), ((0, 1, 2, 3), ((0, 1), (0, 2), (1, 3)))), (ring(4), ((0, 1, 2, 3), ((0, 1), (0, 2), (1, 3), (2, 3)))),
            (full(6), full(6)), (loose(6), loose(6)), (star(5), star(5)), (holed(star(5)), star(5)),
            (ring(6), ((0, 1, 2, 3, 4, 5), ((0, 1), (0, 2), (1, 3), (2, 4), (3, 5), (4, 5)))),
        ]:
            self.assertEqual(asked(self, form, web), told)

    def test_the_least_of_all_names(self):
        for web in [web for many in range(5) for web in all_webs(many)] + [ring(5), row(5), grid(2, 3), both(2, 3)]:
            least = min(called(web, names) for names in itertools.permutations(range(len(web[0]))))
            self.assertEqual(form(web), least)
            self.assertEqual(form(holed(web)), least)

    def test_one_form_just_where_alike(self):
        rng = random.Random(6)
        webs = [(tuple(range(many)), ties) for size in range(7) for many, ties in sorted(all_forms(size))]
        self.assertEqual(len(webs), 1 + 1 + 2 + 4 + 11 + 34 + 156)
        forms = [form(web) for web in webs]
        self.assertEqual(len(set(forms)), len(webs))
        for web, least in zip(webs, forms):
            other = called(web, rng.sample(range(100), len(web[0])))
            self.assertEqual(form(other), least)
            self.assertEqual(least[0], web[0])
            self.assertIs(is_web(least), True)
            self.assertIsNotNone(alike(other, least))
        for one, two in itertools.combinations(rng.sample(range(len(webs)), 60), 2):
            self.assertIsNone(alike(webs[one], forms[two]))

    def test_rings_that_are_not_alike(self):
        self.assertNotEqual(form(RINGS[0]), form(RINGS[1]))
        self.assertEqual(form(PAWS[0]), form(PAWS[1]))


class Small(unittest.TestCase):
    def test_how_many(self):
        self.assertEqual([len(asked(self, small, many)) for many in range(6)], [1, 1, 2, 4, 11, 34])

    def test_written_out(self):
        self.assertEqual(small(0), (NOTHING,))
        self.assertEqual(small(1), (ONE,))
        self.assertEqual(small(2), (loose(2), full(2)))
        self.assertEqual(small(3), (loose(3), ((0, 1, 2), ((0, 1),)), ((0, 1, 2), ((0, 1), (0, 2))), full(3)))

    def test_each_once_rising_its_own_form(self):
        for many in range(6):
            told = small(many)
            self.assertEqual(list(told), sorted(set(told)))
            for web in told:
                self.assertIs(is_web(web), True)
                self.assertEqual(web[0], tuple(range(many)))
                self.assertEqual(form(web), web)
            self.assertEqual({form_of(web) for web in told}, all_forms(many))

    def test_all_webs_are_among_them(self):
        for many in range(5):
            self.assertEqual(set(small(many)), {form(web) for web in all_webs(many)})
        five = small(5)
        for web in list(all_webs(5))[::7]:
            self.assertIn(form(web), five)


def led_to(web):
    """All webs to which rows of deeds lead, each deed done one by one."""
    met = {web}
    waiting = [web]
    while waiting:
        now = waiting.pop()
        for deed in deeds(now):
            behind = done(now, deed)
            if behind not in met:
                met.add(behind)
                waiting.append(behind)
    return met


class Held(unittest.TestCase):
    def test_written_out(self):
        self.assertEqual(asked(self, held, NOTHING), (NOTHING,))
        self.assertEqual(asked(self, held, ((42,), ())), (NOTHING, ONE))
        self.assertEqual(asked(self, held, ((4, 7), ((4, 7),))), (NOTHING, ONE, loose(2), full(2)))
        self.assertEqual(asked(self, held, loose(3)), (NOTHING, ONE, loose(2), loose(3)))
        self.assertEqual(held(full(3)), tuple(sorted(small(0) + small(1) + small(2) + small(3))))
        self.assertEqual(held(row(3)), held(full(3))[:-1])

    def test_full_webs_hold_all(self):
        every = ()
        for many in range(6):
            every += small(many)
            self.assertEqual(held(full(many)), tuple(sorted(every)))

    def test_against_rows_of_deeds(self):
        for web in [NOTHING, ONE, ring(5), full(5), star(4), row(5), both(2, 3), holed(ring(5)), beside(full(3), full(2)), loose(5),
                    called(both(1, 4), (9, 8, 2, 1, 5)), grid(2, 2), diamond()]:
            told = asked(self, held, web)
            self.assertEqual(told, tuple(sorted({form(behind) for behind in led_to(web)})))
            self.assertIn(form(web), told)
            self.assertIn(NOTHING, told)

    def test_against_plain_forms(self):
        known = {}
        for web in [web for many in range(6) for web in small(many)]:
            self.assertEqual({form_of(other) for other in held(web)}, held_forms(form_of(web), known))

    def test_just_what_is_drawn(self):
        smaller = [web for many in range(1, 5) for web in small(many)]
        for web in [web for many in range(6) for web in small(many)]:
            told = held(web)
            for other in smaller:
                self.assertEqual(other in told, sought(web, other, "any", None, 9999)[0] == "drawn", (web, other))


if __name__ == "__main__":
    unittest.main()
