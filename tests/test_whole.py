"""The promise of point 3, (a) to (h), over the whole program."""

import functools
import itertools
import random
import unittest

from samples import called, holed, some_rows
from drawnweb.barlooks import shows_barred
from drawnweb.deeds import deeds, done, lots_behind, played
from drawnweb.desk import Desk
from drawnweb.drawings import drawing_of, extra, row_of, shows_drawn
from drawnweb.fewest import fewest
from drawnweb.fewlooks import shows_fewest
from drawnweb.forms import alike, form, held, renamed, small
from drawnweb.kept import Kept
from drawnweb.keptlooks import shows_kept
from drawnweb.kinds import is_kind, kinds, never
from drawnweb.leasts import least_spread, least_width, spread_table, width_table
from drawnweb.made import beside, both, diamond, full, grid, ring, row, spider, star
from drawnweb.nots import not_kind
from drawnweb.orders import spread, width
from drawnweb.reading import read_lots, read_row, read_web
from drawnweb.seeking import sought
from drawnweb.showing import show_lots, show_row, show_web
from drawnweb.tablelooks import shows_spread, shows_width
from drawnweb.verdicts import verdict, walled
from drawnweb.walls import holds_on

MOST = 2000
SMALL = [web for many in range(6) for web in small(many)]
TOLDS = [web for web in SMALL if 1 <= len(web[0]) <= 4]
SOME = [ring(6), grid(2, 3), both(2, 4), spider(), beside(full(3), row(3)), holed(both(3, 3)), star(5)]


@functools.lru_cache(maxsize=None)
def holds(web):
    return held(web)


def costs(web):
    """For each form that rows of deeds lead to, the fewest draws and the fewest cuts of all such rows."""
    return [cheapest(web, word) for word in ("draw", "cut")]


def cheapest(web, word):
    """For each form the fewest deeds of this word, each deed done one by one."""
    least = {web: 0}
    layer = [web]
    while layer:
        now = min(layer, key=least.get)
        layer.remove(now)
        for deed in deeds(now):
            behind, price = done(now, deed), least[now] + (deed[0] == word)
            if price < least.get(behind, 99):
                least[behind] = price
                layer.append(behind)
    told = {}
    for behind, price in least.items():
        told[form(behind)] = min(price, told.get(form(behind), 99))
    return told


class Drawings(unittest.TestCase):
    """(a)"""

    def look(self, web, told, drawing):
        lots, ties = drawing
        self.assertIs(shows_drawn(web, told, drawing), True)
        deeds_done = row_of(web, told, drawing)
        behind = played(web, deeds_done)
        self.assertEqual(behind, renamed(told, tuple(lot[0] for lot in lots)))
        self.assertEqual(dict(lots_behind(web, deeds_done)), {lot[0]: lot for lot in lots})
        words = [deed[0] for deed in deeds_done]
        inside = sum(map(len, lots))
        self.assertEqual([words.count(word) for word in ("drop", "draw", "cut")],
                         [len(web[0]) - inside, inside - len(lots), len(extra(web, told, lots))])

    def test_whatever_tells_one(self):
        drawn = 0
        for web, told in itertools.product(SMALL + SOME, TOLDS):
            word, found = verdict(web, told, MOST)
            if word == "drawn":
                drawn += 1
                self.look(web, told, found)
                if drawn % 7 == 0:
                    for what in ("draws", "cuts"):
                        self.look(web, told, fewest(web, told, what, MOST)[2])
                if holds_on(told, 0) and drawn % 5 == 0:
                    self.look(web, told, walled(web, told, (), MOST)[1])
        self.assertGreater(drawn, 300)

    def test_of_webs_not_of_a_kind(self):
        for web in SMALL + SOME:
            for word in kinds(full(0)):
                if word not in kinds(web):
                    number, drawing = not_kind(word, web)
                    self.look(web, never(word)[number], drawing)


class Barred(unittest.TestCase):
    """(b)"""

    def test_no_row_leads_there(self):
        barred = 0
        for web, told in itertools.product(SMALL, TOLDS + [web for web in SMALL if len(web[0]) == 5][::3]):
            word, found = verdict(web, told, MOST)
            self.assertEqual(word, "drawn" if form(told) in holds(web) else "barred")
            if word == "barred":
                barred += 1
                self.assertIs(shows_barred(web, told, found), True)
        self.assertGreater(barred, 300)

    def test_by_walls(self):
        for web in SMALL:
            for told in TOLDS[::2]:
                for wall in itertools.chain.from_iterable(itertools.combinations(web[0], size) for size in range(3)):
                    if holds_on(told, len(wall)):
                        word, found = walled(web, told, wall, MOST)
                        if word == "barred":
                            self.assertNotIn(form(told), holds(web))
                            self.assertIs(shows_barred(web, told, found), True)
                        if word == "drawn":
                            self.assertIn(form(told), holds(web))


class Fewest(unittest.TestCase):
    """(c)"""

    def test_no_row_has_fewer(self):
        for web in [web for many in range(5) for web in small(many)] + [ring(5), both(2, 3), star(4)]:
            draws, cuts = costs(web)
            for told in TOLDS:
                for what, least in (("draws", draws), ("cuts", cuts)):
                    answer = fewest(web, told, what, MOST)
                    self.assertEqual(answer[0] == "least", form(told) in least)
                    self.assertIs(shows_fewest(web, told, what, answer), answer[0] == "least")
                    if answer[0] == "least":
                        self.assertEqual(answer[1], least[form(told)], (web, told, what))

    def test_draws_and_drops_of_each_row(self):
        rng = random.Random(3)
        for web in SOME:
            for deeds_done, behind in itertools.islice(some_rows(rng, web, 12, deeds, done), 30):
                fewer = [deed for deed in deeds_done if deed[0] != "cut"]
                self.assertEqual(len(fewer), len(web[0]) - len(behind[0]))


class Kinds(unittest.TestCase):
    """(d)"""

    def test_behind_whatever_deeds(self):
        for web in SMALL:
            for word in kinds(full(0)):
                none = not any(form(barred) in holds(web) for barred in never(word) if len(barred[0]) <= 6)
                self.assertIs(is_kind(word, web), none)

    def test_great_webs_stay_of_their_kinds(self):
        rng = random.Random(4)
        for web in [ring(24), star(23), row(24), grid(2, 12), beside(ring(12), ring(12)), both(2, 20), beside(star(11), star(11))]:
            for deeds_done, _ in itertools.islice(some_rows(rng, web, 40, deeds, done), 2):
                now, of = web, set(kinds(web))
                self.assertTrue(of)
                for deed in deeds_done:
                    now = done(now, deed)
                    self.assertLessEqual(of, set(kinds(now)))
                    of = set(kinds(now))


class Leasts(unittest.TestCase):
    """(e)"""

    def test_no_order_has_less(self):
        for web in SMALL + [ring(6), grid(2, 3)]:
            for least, measure, table, look in [(least_width, width, width_table, shows_width), (least_spread, spread, spread_table, shows_spread)]:
                number, order = least(web)
                self.assertEqual(measure(web, order), number)
                self.assertEqual(number, min(measure(web, other) for other in itertools.permutations(web[0])))
                self.assertIs(look(web, number, table(web)), True)
                self.assertIs(look(web, number + 1, table(web)), False)

    def test_by_no_deed_it_becomes_greater(self):
        for web in [web for web in SMALL if len(web[0]) >= 4] + SOME + [grid(3, 3)]:
            for least in (least_width, least_spread):
                ahead = least(web)[0]
                for deed in deeds(web):
                    self.assertLessEqual(least(done(web, deed))[0], ahead)


class Keeping(unittest.TestCase):
    """(f)"""

    def test_true_behind_each_deed(self):
        rng = random.Random(5)
        for web in [web for web in SMALL if len(web[0]) == 5][::4] + [full(5)]:
            tolds = tuple(rng.sample(TOLDS, 4))
            for most in (0, 30, MOST):
                kept = Kept(web, tolds, most)
                while deeds(kept.web()):
                    ahead, many = kept.words(), kept.searches()
                    kept.do(rng.choice(deeds(kept.web())))
                    words = kept.words()
                    barred = [k for k in range(4) if ahead[k] == "barred"]
                    self.assertEqual([words[k] for k in barred], ["barred"] * len(barred))
                    self.assertLessEqual(kept.searches() - many, 4 - len(barred))
                    for k, (told, word) in enumerate(zip(tolds, words)):
                        if word == "open":
                            self.assertIsNone(kept.paper(k))
                            continue
                        self.assertEqual(word == "drawn", form(told) in holds(form(kept.web())))
                        look = shows_drawn if word == "drawn" else shows_kept
                        self.assertIs(look(kept.web(), told, kept.paper(k)), True)


class Forms(unittest.TestCase):
    """(g)"""

    def test_alike_just_where_forms_are_one(self):
        rng = random.Random(6)
        webs = [called(web, rng.sample(range(100), len(web[0]))) for web in SMALL + TOLDS]
        for one, other in itertools.product(webs, repeat=2):
            names = alike(one, other)
            self.assertEqual(names is not None, form(one) == form(other) if len(one[0]) == len(other[0]) else False)
            if names is not None:
                self.assertEqual(renamed(one, names), other)

    def test_held_just_where_drawn(self):
        for web, told in itertools.product(SMALL, TOLDS):
            drawn = sought(web, told, "any", None, 10 ** 6)[0] == "drawn"
            self.assertEqual(form(told) in holds(web), drawn)


class Texts(unittest.TestCase):
    """(h)"""

    def test_read_as_it_was(self):
        rng = random.Random(7)
        for web in SMALL + SOME:
            self.assertEqual(read_web(show_web(web)), web)
            for deeds_done, _ in itertools.islice(some_rows(rng, web, 60, deeds, done), 3):
                self.assertEqual(read_row(show_row(deeds_done)), deeds_done)
            for told in TOLDS[::5]:
                word, found = verdict(web, told, MOST)
                if word == "drawn":
                    self.assertEqual(read_lots(show_lots(found[0])), found[0])

    def test_the_desk_answers_so(self):
        desk = Desk()
        for web, told in itertools.product(SMALL[::4] + SOME, TOLDS[::3] + [diamond()]):
            desk.say("web " + show_web(web))
            desk.say("told " + show_web(told))
            self.assertEqual(read_web(desk.say("save")), web)
            word, _, lots = desk.say("verdict").partition(" ")
            self.assertEqual(word, verdict(web, told, MOST)[0])
            if word == "drawn":
                self.assertIsNotNone(drawing_of(web, told, read_lots(lots)))
            for what in ("draws", "cuts"):
                answer = fewest(web, told, what, MOST)
                self.assertEqual(desk.say("fewest " + what), str(answer[1]) if answer[0] == "least" else answer[0])


if __name__ == "__main__":
    unittest.main()
