import itertools
import random
import unittest

from samples import all_webs, asked, called, holed, odd_things, refused, some_rows
from drawnweb.deeds import deeds, done
from drawnweb.errors import NoText
from drawnweb.made import beside, both, full, grid, ring, row, star
from drawnweb.reading import read_lots, read_row, read_web
from drawnweb.showing import show_lots, show_row, show_web
from drawnweb.webs import is_web

NOTHING = ((), ())
READERS = (read_web, read_row, read_lots)
# Signs that may be put into a text: all from the blank to ~, a line feed, and some beyond.
SIGNS = [chr(code) for code in range(32, 127)] + ["\n", "\t", "\r", "\x00", "\u0663", "\u00b2", "\uff11", "\u00a0", "\u2009"]


class Texts(unittest.TestCase):
    def both_ways(self, show, read, thing, text):
        self.assertEqual(asked(self, show, thing), text)
        self.assertEqual(asked(self, read, text), thing)

    def shut(self, read, text):
        refused(self, NoText, read, text)

    def signs_otherwise(self, read, show, text):
        """Whatever sign is put in, taken out or changed: what is read is written so, all else is refused."""
        spoilt = {text[:at] + text[at + 1:] for at in range(len(text))}
        spoilt |= {text[:at] + sign + text[at:] for at in range(len(text) + 1) for sign in SIGNS}
        spoilt |= {text[:at] + sign + text[at + 1:] for at in range(len(text)) for sign in SIGNS}
        refusals = 0
        for other in sorted(spoilt):
            try:
                thing = read(other)
            except NoText:
                refusals += 1
            else:
                self.assertEqual(show(thing), other)
        self.assertGreater(refusals, len(spoilt) // 2)


class Webs(Texts):
    def test_written_out(self):
        for web, text in [
            (NOTHING, ":"), (((0,), ()), "0 :"), (((99,), ()), "99 :"), (((0, 7, 10, 98), ()), "0 7 10 98 :"),
            (((0, 1, 5), ((0, 1), (1, 5))), "0 1 5 : 0.1 1.5"), (((9, 10), ((9, 10),)), "9 10 : 9.10"),
            (star(3), "0 1 2 3 : 0.1 0.2 0.3"), (((0, 99), ((0, 99),)), "0 99 : 0.99"),
        ]:
            self.both_ways(show_web, read_web, web, text)

    def test_read_as_it_was(self):
        great = beside(both(4, 15), row(5))
        self.assertEqual((len(great[0]), len(great[1])), (24, 64))
        sixty = (great[0], great[1][:60])
        whole = (tuple(range(100)), tuple(itertools.combinations(range(100), 2)))
        bare = (tuple(range(100)), ())
        webs = [great, sixty, whole, bare, full(24), holed(grid(4, 6)), called(ring(5), (90, 3, 41, 40, 7))]
        for web in webs + list(all_webs(4)) + list(map(holed, all_webs(4))):
            text = show_web(web)
            self.assertEqual(read_web(text), web)
            self.assertIs(is_web(read_web(text)), True)
            self.assertEqual(show_web(read_web(text)), text)

    def test_not_so_written(self):
        for text in [
            "", " ", "-", "::", ": :", " :", ": ", "0", "0 1", "0:", "0 :1", "0 1: 0.1", "0 1 :0.1", "0 1 :  0.1", "0 1  : 0.1",
            "0  1 : 0.1", " 0 1 : 0.1", "0 1 : 0.1 ", "0 1 : 0.1\n", "\n0 1 : 0.1", "0\n1 : 0.1", "0\t1 : 0.1", "00 1 : 0.1",
            "00 :", "01 :", "0 01 : 0.1", "0 1 : 0.01", "0 1 : 00.1", "+0 1 : 0.1", "-0 1 : 0.1", "-1 :", "0 +1 : 0.1",
            "0 1 : 0.+1", "0, 1 : 0.1", "0,1 : 0.1", "0 1 : 0,1", "0 1 : 0-1", "0 1 : 0 1", "0 1 : 0. 1", "0 1 : 0 .1",
            "0 1 : 0.", "0 1 : .1", "0 1 : .", "0 1 : 0..1", "0 1 : 0.1.", "0 1 2 : 0.1.2", "0 1 : 1.0", "0 1 : 0.0", "1 0 : 0.1",
            "1 0 :", "0 0 :", "0 1 1 :", "0 2 1 :", "0 1 2 : 1.2 0.1", "0 1 : 0.1 0.1", "0 1 2 : 0.2 0.1", "0 1 : 0.2", "0 2 : 1.2",
            ": 0.1", "100 :", "0 100 : 0.100", "999 :", "0 1 : 0.1 :", ": 0 1 : 0.1", "0 1 : : 0.1", "0 1 ; 0.1", "a :", "0 b :",
            "0 1 : a.b", "0x1 :", "1_0 :", "1e1 :", "1.0 :", "0 1. : 0.1", "\u0663 :", "0 \u0661 :", "\u00b2 :", "\uff11 :",
            "0 1 : 0\uff0e1", "None", "0 1 : 0.1, 0.1", "0 1 | 2", "cut 0 1", "9" * 5000 + " :", "0 : " + "9" * 5000, "0" * 5000,
            ":" * 5000, " " * 5000, "0 1 : 0.1 " * 2, "((), ())", "0 1 : 0.1#", "10 9 :", "2 10 9 :",
        ]:
            self.shut(read_web, text)

    def test_a_sign_otherwise(self):
        self.signs_otherwise(read_web, show_web, "0 1 5 : 0.1 1.5")
        self.signs_otherwise(read_web, show_web, "9 10 : 9.10")
        self.signs_otherwise(read_web, show_web, ":")


class Rows(Texts):
    def test_written_out(self):
        for deeds_done, text in [
            ((), "-"), ((("cut", 0, 1), ("drop", 5)), "cut 0 1, drop 5"), ((("drop", 0),), "drop 0"), ((("drop", 99),), "drop 99"),
            ((("draw", 0, 99),), "draw 0 99"), ((("cut", 9, 10),), "cut 9 10"),
            ((("draw", 3, 41), ("draw", 3, 41), ("cut", 0, 2), ("drop", 7)), "draw 3 41, draw 3 41, cut 0 2, drop 7"),
        ]:
            self.both_ways(show_row, read_row, deeds_done, text)

    def test_read_as_it_was(self):
        rng = random.Random(24)
        for web in [ring(6), both(4, 15), full(11), holed(grid(4, 6))]:
            for deeds_done, _ in itertools.islice(some_rows(rng, web, 60, deeds, done), 5):
                self.assertEqual(read_row(show_row(deeds_done)), deeds_done)
        every = tuple(("cut",) + pair for pair in itertools.combinations(range(100), 2))
        self.assertEqual(read_row(show_row(every)), every)
        every = tuple(("drop", place) for place in range(100)) * 3
        self.assertEqual(read_row(show_row(every)), every)

    def test_not_so_written(self):
        for text in [
            "", " ", "--", "- ", " -", "-\n", "-, -", "-, drop 1", "drop 1, -", ":", "drop", "drop ", "drop 1 2", "drop  1", " drop 1",
            "drop 1 ", "drop 1\n", "drop 1,", "drop 1, ", ", drop 1", "drop 1,drop 2", "drop 1 , drop 2", "drop 1,  drop 2",
            "drop 1, , drop 2", "drop 1; drop 2", "drop 1 drop 2", "cut", "cut 0", "cut 0 1 2", "cut 1 0", "cut 1 1", "draw 1 0",
            "draw 5 5", "draw 0", "draw 0 1 2", "draw", "cut 0  1", "cut 0.1", "cut 0, 1", "Cut 0 1", "DROP 1", "keep 1", "drops 1",
            "1 drop", "0 1", "drop 01", "drop 00", "cut 00 1", "cut 0 01", "drop +1", "drop -1", "drop 100", "cut 0 100", "drop a",
            "drop \u0661", "drop \u00b2", "drop one", "drop None", "cut 0 1, drop", "cut 0 1, drop 5, cut 5 1", "cut 10 9",
            "drop " + "9" * 5000, "drop\n1", "drop\t1", "cut 0 1,\ndrop 5", "('drop', 1)", "drop 1.", "drop 1.0",
        ]:
            self.shut(read_row, text)

    def test_a_sign_otherwise(self):
        self.signs_otherwise(read_row, show_row, "cut 0 1, drop 5")
        self.signs_otherwise(read_row, show_row, "draw 9 10")
        self.signs_otherwise(read_row, show_row, "-")

    def test_of_whatever_web(self):
        # None of these is a deed behind the other.
        self.assertEqual(read_row("drop 3, drop 3, cut 3 4"), (("drop", 3), ("drop", 3), ("cut", 3, 4)))


class Lots(Texts):
    def test_written_out(self):
        for lots, text in [
            (((0,),), "0"), (((0, 5, 99),), "0 5 99"), (((0, 1), (2,), (3, 4)), "0 1 | 2 | 3 4"), (((4,), (1, 2)), "4 | 1 2"),
            (((1,), (1,)), "1 | 1"), (((9, 10), (8,)), "9 10 | 8"), ((tuple(range(100)),), " ".join(map(str, range(100)))),
        ]:
            self.both_ways(show_lots, read_lots, lots, text)

    def test_read_as_it_was(self):
        rng = random.Random(11)
        for _ in range(200):
            lots = tuple(tuple(sorted(rng.sample(range(100), rng.randrange(1, 24)))) for _ in range(rng.randrange(1, 24)))
            self.assertEqual(read_lots(show_lots(lots)), lots)

    def test_not_so_written(self):
        for text in [
            "", " ", "-", ":", "|", " | ", "0 |", "0 | ", "| 0", " | 0", "0 |1", "0| 1", "0|1", "0  | 1", "0 |  1", "0 | | 1", "0 |  | 1",
            "0 || 1", " 0 | 1", "0 | 1 ", "0 | 1\n", "0 |\n1", "0\n| 1", "0  1", "1 0", "0 0", "0 | 2 1", "0 | 1 1", "00", "01", "0 | 01",
            "+1", "-1", "100", "0 | 100", "0, 1", "0,1", "0.1", "0 / 1", "a", "0 | a", "\u0661", "\u00b2", "0 1 : 0.1", "drop 1", "10 9",
            "9" * 5000, "0 | " * 2000, "0 | 1 |", "0 \u00a6 1",
        ]:
            self.shut(read_lots, text)

    def test_a_sign_otherwise(self):
        self.signs_otherwise(read_lots, show_lots, "0 1 | 2 | 3 4")
        self.signs_otherwise(read_lots, show_lots, "9 10 | 8")
        self.signs_otherwise(read_lots, show_lots, "0")


class Anything(Texts):
    def test_what_is_no_text(self):
        for thing in odd_things():
            for read in READERS:
                self.shut(read, thing)
        for read, text in zip(READERS, ("0 1 : 0.1", "cut 0 1", "0 1 | 2")):
            for thing in [text.encode(), [text], (text,), {text: 1}, {text}, list(text), tuple(text), bytearray(text.encode()),
                          read(text)]:
                self.shut(read, thing)

    def test_each_reader_has_texts_of_its_own(self):
        self.assertEqual(read_row("-"), ())
        self.assertEqual(read_web(":"), NOTHING)
        for read, text in [(read_web, "-"), (read_lots, "-"), (read_row, ":"), (read_lots, ":"), (read_web, "0"), (read_row, "0")]:
            self.shut(read, text)
        for read in READERS:
            self.shut(read, "")

    def test_great_texts(self):
        for read in READERS:
            for text in ["0 " * 500, "drop 1, " * 120, "0 | " * 250, "\n" * 1000, "~" * 1000, "9" * 1000]:
                self.shut(read, text)


if __name__ == "__main__":
    unittest.main()
