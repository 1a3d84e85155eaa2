import random
import unittest

from samples import Prickly, nested, odd_things, refused
from drawnweb.deeds import deeds, done
from drawnweb.desk import Desk
from drawnweb.errors import Lacks, NoBack, NoDeed, NoLine, WebError
from drawnweb.fewest import fewest
from drawnweb.kinds import kinds
from drawnweb.leasts import least_spread, least_width
from drawnweb.made import both, full, grid, ring, row, star
from drawnweb.showing import show_lots, show_row, show_web
from drawnweb.verdicts import verdict
from drawnweb.webs import pieces

RING = "0 1 2 3 4 : 0.1 0.4 1.2 2.3 3.4"
THREE = "0 1 2 : 0.1 0.2 1.2"
OF_WEB = ("save", "pieces", "kinds", "width", "spread")
OF_BOTH = ("verdict", "fewest draws", "fewest cuts")
CHANGES = ("cut 0 1", "draw 0 1", "drop 0", "back")
SIGNS = [chr(code) for code in range(32, 127)] + ["\n", "\t", "\r", "\x00", "\u0663", "\u00b2", "\u00a0"]


class Desks(unittest.TestCase):
    def setUp(self):
        self.desk = Desk()

    def says(self, line, answer):
        told = self.desk.say(line)
        self.assertIs(type(told), str)
        self.assertEqual(told, answer, line)

    def said(self, *lines):
        for line in lines:
            self.says(line, "done")

    def shut(self, refusal, line):
        error = refused(self, refusal, self.desk.say, line)
        if refusal is NoDeed:
            self.assertEqual(error.number, 0)


class Answers(Desks):
    def test_a_ring(self):
        self.said("web " + RING, "told " + THREE)
        for line, answer in [
            ("save", RING), ("pieces", "0 1 2 3 4"), ("kinds", "rings series"), ("width", "2"), ("spread", "2"),
            ("verdict", "drawn 0 1 2 | 3 | 4"), ("fewest draws", "2"), ("fewest cuts", "0"),
        ]:
            self.says(line, answer)
            self.says(line, answer)

    def test_behind_deeds_and_back(self):
        self.said("web " + RING, "told " + THREE, "draw 0 4")
        for line, answer in [("save", "0 1 2 3 : 0.1 0.3 1.2 2.3"), ("verdict", "drawn 0 1 | 2 | 3"), ("fewest draws", "1")]:
            self.says(line, answer)
        self.said("cut 0 3")
        for line, answer in [
            ("save", "0 1 2 3 : 0.1 1.2 2.3"), ("kinds", "rows combs forest rings series"), ("width", "1"), ("spread", "1"),
            ("verdict", "barred"), ("fewest draws", "barred"), ("fewest cuts", "barred"),
        ]:
            self.says(line, answer)
        self.said("drop 1")
        for line, answer in [("save", "0 2 3 : 2.3"), ("pieces", "0 | 2 3"), ("kinds", "pairs hub stars rows combs forest rings series")]:
            self.says(line, answer)
        self.said("back")
        self.says("save", "0 1 2 3 : 0.1 1.2 2.3")
        self.said("back")
        for line, answer in [("save", "0 1 2 3 : 0.1 0.3 1.2 2.3"), ("verdict", "drawn 0 1 | 2 | 3"), ("fewest draws", "1")]:
            self.says(line, answer)
        self.said("back")
        for line, answer in [("save", RING), ("verdict", "drawn 0 1 2 | 3 | 4"), ("fewest draws", "2"), ("fewest cuts", "0")]:
            self.says(line, answer)
        self.shut(NoBack, "back")
        self.says("save", RING)

    def test_the_web_without_places(self):
        self.said("web :", "told 0 :")
        for line, answer in [
            ("save", ":"), ("pieces", "-"), ("kinds", "bare pairs hub stars rows combs forest rings series"), ("width", "0"),
            ("spread", "0"), ("verdict", "barred"), ("fewest draws", "barred"), ("fewest cuts", "barred"),
        ]:
            self.says(line, answer)
        for line in ("cut 0 1", "draw 0 1", "drop 0"):
            self.shut(NoDeed, line)
        self.shut(NoBack, "back")
        self.said("web 5 :", "drop 5")
        self.says("save", ":")
        self.said("back")
        self.says("save", "5 :")

    def test_without_kinds(self):
        self.said("web " + show_web(full(4)))
        self.says("kinds", "-")
        self.said("cut 0 1")
        self.says("kinds", "series")

    def test_open(self):
        # Some thousands of places would be asked.
        self.said("web " + show_web(ring(9)), "told " + show_web(star(3)))
        for line in OF_BOTH:
            self.says(line, "open")

    def test_most_is_2000(self):
        # 1962 places are asked for the one, 2023 for the other.
        other = ((0, 1, 2, 3, 4, 5, 6, 7), ((0, 2), (0, 7), (1, 3), (1, 6), (2, 4), (3, 7), (4, 5), (5, 6)))
        for web, told, many, word in [(both(4, 2), ring(5), 1962, "barred"), (other, star(3), 2023, "open")]:
            self.assertEqual(verdict(web, told, many)[0], "barred")
            self.assertEqual(verdict(web, told, many - 1)[0], "open")
            self.said("web " + show_web(web), "told " + show_web(told))
            for line in OF_BOTH:
                self.says(line, word)

    def test_cuts_to_be_made(self):
        self.said("web " + show_web(full(4)), "told 7 8 9 :")
        self.says("verdict", "drawn 0 1 | 2 | 3")
        self.says("fewest draws", "0")
        self.says("fewest cuts", "3")

    def test_names_that_are_not_in_order(self):
        self.said("web 3 10 99 : 3.99 10.99", "told 5 60 :")
        self.says("save", "3 10 99 : 3.99 10.99")
        self.says("pieces", "3 10 99")
        self.says("verdict", "drawn 3 99 | 10")
        self.said("draw 10 99")
        self.says("save", "3 10 : 3.10")
        self.said("drop 10", "drop 3")
        self.says("save", ":")
        self.said("back", "back", "back")
        self.says("save", "3 10 99 : 3.99 10.99")


class Setting(Desks):
    def test_webs_of_up_to_nine_places(self):
        for many in range(10):
            self.said("web " + show_web(row(many)))
            self.says("save", show_web(row(many)))
        for web in (row(10), row(11), row(24), (tuple(range(10)), ()), full(11), (tuple(range(100)), ())):
            self.shut(NoLine, "web " + show_web(web))
            self.says("save", show_web(row(9)))
        self.said("web " + show_web(full(9)))

    def test_told_webs_of_one_to_five_places(self):
        self.said("web 0 1 : 0.1")
        for many in (0, 6, 7, 9, 10, 24):
            self.shut(NoLine, "told " + show_web(full(many)))
            self.shut(Lacks, "verdict")
        for many in range(1, 6):
            self.said("told " + show_web(full(many)))
            self.says("verdict", {1: "drawn 0 1", 2: "drawn 0 | 1"}.get(many, "barred"))
        for many in (0, 6):
            self.shut(NoLine, "told " + show_web(full(many)))
            self.says("verdict", "barred")

    def test_a_web_leaves_no_deeds_to_undo(self):
        self.said("web " + RING, "drop 0", "drop 1", "web 0 1 : 0.1")
        self.shut(NoBack, "back")
        self.said("drop 0", "back")
        self.shut(NoBack, "back")
        self.says("save", "0 1 : 0.1")
        # The same web once more is a web from now on, too.
        self.said("drop 0", "web 1 :")
        self.shut(NoBack, "back")

    def test_a_told_web_leaves_the_web_as_it_is(self):
        self.said("web " + RING, "drop 0", "told " + THREE)
        self.says("save", "1 2 3 4 : 1.2 2.3 3.4")
        self.says("verdict", "barred")
        self.said("told 0 1 : 0.1")
        self.says("verdict", "drawn 1 2 3 | 4")
        self.said("back")
        # Back undoes the deed alone: the told web set last stays.
        self.says("save", RING)
        self.says("verdict", "drawn 0 1 2 3 | 4")
        self.shut(NoBack, "back")
        self.says("verdict", "drawn 0 1 2 3 | 4")

    def test_a_web_leaves_the_told_web(self):
        self.said("told " + THREE, "web " + RING)
        self.says("verdict", "drawn 0 1 2 | 3 | 4")
        self.said("web 0 1 2 : 0.1 1.2")
        self.says("verdict", "barred")

    def test_desks_are_apart(self):
        other = Desk()
        self.said("web " + RING, "told " + THREE)
        refused(self, Lacks, other.say, "save")
        self.assertEqual(other.say("web 0 :"), "done")
        self.said("drop 0")
        self.assertEqual(other.say("save"), "0 :")
        refused(self, NoBack, other.say, "back")
        refused(self, Lacks, other.say, "verdict")
        self.says("save", "1 2 3 4 : 1.2 2.3 3.4")


class Refusals(Desks):
    def test_lacks_the_web(self):
        for line in OF_WEB + OF_BOTH + CHANGES + ("drop 5000", "cut 7 7", "draw 9 3"):
            self.shut(Lacks, line)
        self.said("told " + THREE)
        for line in OF_WEB + OF_BOTH + CHANGES + ("drop 5000", "cut 7 7", "draw 9 3"):
            self.shut(Lacks, line)

    def test_lacks_the_told_web(self):
        self.said("web " + RING)
        for line in OF_BOTH:
            self.shut(Lacks, line)
        for line in OF_WEB:
            self.assertIs(type(self.desk.say(line)), str)
        self.shut(NoBack, "back")
        self.shut(NoDeed, "drop 9")
        self.said("drop 0", "back", "told " + THREE)
        for line in OF_BOTH:
            self.assertIs(type(self.desk.say(line)), str)

    def test_no_deed(self):
        self.said("web " + RING, "told " + THREE)
        for line in [
            "cut 0 2", "cut 1 0", "cut 4 3", "cut 4 0", "cut 0 0", "cut 3 3", "cut 0 5", "cut 5 6", "draw 0 2", "draw 1 0", "draw 4 0",
            "draw 2 2", "draw 4 5", "drop 5", "drop 99", "drop 100", "drop 101", "cut 0 100", "cut 100 101", "cut 100 100", "draw 100 0",
            "drop 1000000", "drop " + "9" * 900, "drop " + "1" * 5000, "cut 0 " + "1" * 5000, "draw " + "4" * 6000 + " 1", "cut 0 10",
            "cut 0 100000", "drop 10", "drop 40", "cut 0 40",
        ]:
            self.shut(NoDeed, line)
            self.says("save", RING)
            self.shut(NoBack, "back")

    def test_numbers_of_many_figures_are_no_places(self):
        # No figures but the first ones, or the last ones, make a number: places 1, 10 and 99 are none of these.
        self.said("web 0 1 10 99 : 0.1 0.10 0.99 1.10")
        for line in ["drop 100", "drop 101", "drop 990", "drop 999", "drop 1" + "0" * 900, "cut 0 100", "cut 1 100", "draw 0 990", "drop 199"]:
            self.shut(NoDeed, line)

    def test_back_behind_a_refused_deed(self):
        self.said("web " + RING, "cut 0 1")
        for line in ("cut 0 1", "drop 7", "draw 0 1"):
            self.shut(NoDeed, line)
        for line in ("cut", "drop 07", "undo", "web 9"):
            self.shut(NoLine, line)
        self.said("back")
        self.says("save", RING)
        self.shut(NoBack, "back")

    def test_no_line_comes_first(self):
        for line in ["", "savee", "web", "web 0", "told", "told :", "drop", "drop 01", "cut 0", "fewest", "fewest drops", "verdicts", "back 1"]:
            self.shut(NoLine, line)
        self.said("told " + THREE)
        self.shut(NoLine, "fewest")
        self.shut(NoLine, "drop x")
        self.shut(Lacks, "drop 7")
        self.said("web :")
        self.shut(NoLine, "drop 00")
        self.shut(NoDeed, "drop 0")

    def test_refusals_are_straight_under_weberror(self):
        for refusal in (NoLine, Lacks, NoDeed, NoBack):
            self.assertEqual(refusal.__bases__, (WebError,))


class Lines(Desks):
    def no_lines(self, lines):
        """None of these is a line, whatever the desk has."""
        for line in lines:
            self.shut(NoLine, line)
        self.said("web " + RING, "told " + THREE)
        for line in lines:
            self.shut(NoLine, line)
            self.says("save", RING)
        self.shut(NoBack, "back")
        self.says("verdict", "drawn 0 1 2 | 3 | 4")

    def test_blanks_and_signs(self):
        lines = ["", " ", "\n", "  ", "-", ":"]
        for line in OF_WEB + OF_BOTH + CHANGES + ("web " + RING, "told " + THREE, "web :"):
            lines += [" " + line, line + " ", line + "\n", "\n" + line, line + "\t", "\t" + line, line + ".", line + "\x00", line * 2,
                      line.upper(), line.title(), line + "\r\n", line + " " + line, line.replace(" ", "  ", 1) + " "]
            if " " in line:
                lines += [line.replace(" ", "  ", 1), line.replace(" ", "\t", 1), line.replace(" ", "\n", 1), line.replace(" ", "", 1),
                          line.replace(" ", "_", 1), line.replace(" ", "\u00a0", 1)]
        self.no_lines([line for line in lines if line not in OF_WEB + OF_BOTH + CHANGES])

    def test_words(self):
        self.no_lines([
            "web", "told", "cut", "draw", "drop", "fewest", "web save", "told draws", "say", "do drop 0", "undo", "done", "quit", "words",
            "paper 0", "searches", "row", "-", "save web", "save 0", "pieces 0", "kinds bare", "width 2", "spread 2", "verdict 2000",
            "fewest draw", "fewest cut", "fewest any", "fewest  draws", "fewest draws 2000", "draws", "cuts", "fewest draws cuts", "back 1",
            "back back", "cut 0", "cut 0 1 2", "cut 0.1", "cut 0,1", "cut 0, 1", "cut 0  1", "cut a b", "draw 0", "draw 0 1 2", "drop 0 1",
            "drop  0", "drop a", "drop -1", "drop +1", "drop 0x1", "drop 1.0", "drop 1_0", "drop 01", "drop 00", "drop 000", "cut 00 1",
            "cut 0 01", "draw 0 04", "draw 00 4", "cut -0 1", "drop \u0661", "drop \u00b2", "drop \uff11", "drop ''", "cut 0 1, drop 2",
            "cut 0 1,", "drop 0,", "drop one", "drop None", "drop 1e1", "drop " + "0" * 900, "drop 0" + "1" * 900, "cut 0 " + "1" * 900 + "x",
            "web-:", "web:", "told:", "web : 0.1", "drop :", "reset", "help", "web - ", "web -", "told -",
        ])

    def test_webs_not_so_written(self):
        texts = ["", " ", ":  ", " :", "0", "0 1", "0 1: 0.1", "0 1 :0.1", "0 1 :  0.1", "0  1 : 0.1", "00 1 : 0.1", "0 01 : 0.1", "0 1 : 1.0",
                 "0 1 : 0.01", "0 1 : 0.0", "1 0 :", "0 0 :", "0 1 : 0.2", "0 1 2 : 1.2 0.1", "0 1 : 0.1 0.1", "100 :", "0 1 : 0,1", "0 1 : 0.1\n",
                 "0 1 : 0.1 ", "0 1 | 2", "a :", "0 1 : 0.1 :", ": :", "-", "0 1\n: 0.1", "1" * 900 + " :", "0 1 : 1.0 0.1", "0 2 1 :"]
        self.no_lines(["web " + text for text in texts] + ["told " + text for text in texts])

    def test_a_sign_otherwise(self):
        """Whatever sign is put in, taken out or changed: another line of the desk, or none."""
        known = set(OF_WEB + OF_BOTH + ("back",))
        for line in ("save", "fewest cuts", "drop 3", "cut 0 1", "back"):
            spoilt = {line[:at] + line[at + 1:] for at in range(len(line))}
            spoilt |= {line[:at] + sign + line[at:] for at in range(len(line) + 1) for sign in SIGNS}
            spoilt |= {line[:at] + sign + line[at + 1:] for at in range(len(line)) for sign in SIGNS}
            for other in sorted(spoilt - known):
                parts = other.split(" ")
                figures = [part for part in parts[1:] if part.isascii() and part.isdigit() and str(int(part)) == part]
                deed = figures == parts[1:] and (parts[0], len(figures)) in (("cut", 2), ("draw", 2), ("drop", 1))
                self.shut(Lacks if deed else NoLine, other)

    def test_of_anything(self):
        self.no_lines([thing for thing in odd_things() if type(thing) is not str])
        self.desk = Desk()
        self.no_lines([thing for thing in odd_things() if type(thing) is str])
        self.desk = Desk()
        things = [b"save", ["save"], ("save",), {"save"}, {"save": 1}, list("save"), bytearray(b"save"), Prickly(), ring(5), ("drop", 0),
                  nested(lambda x: (x,), "save"), nested(lambda x: [x], "back"), ("web", ring(5)), True, 0]
        self.no_lines(things)

    def test_texts_of_a_thousand_signs(self):
        self.no_lines(["0 " * 500, "web " + "0 " * 498, "web " + ":" * 996, "\n" * 1000, "~" * 1000, "save" * 250, "drop " * 200,
                       "told " + "0.1 " * 248, "cut " + "1 " * 498])


class Whole(Desks):
    def plain(self, line, web, told):
        """What the functions tell of the webs."""
        if line == "save":
            return show_web(web)
        if line == "pieces":
            return show_lots(pieces(web, web[0])) if web[0] else "-"
        if line == "kinds":
            return " ".join(kinds(web)) if kinds(web) else "-"
        if line in ("width", "spread"):
            return str((least_width if line == "width" else least_spread)(web)[0])
        if line == "verdict":
            word, found = verdict(web, told, 2000)
            return "drawn " + show_lots(found[0]) if word == "drawn" else word
        answer = fewest(web, told, line.split(" ")[1], 2000)
        return str(answer[1]) if answer[0] == "least" else answer[0]

    def test_as_all_these_answer(self):
        rng = random.Random(25)
        seen = set()
        for web, told in [(grid(2, 3), full(3)), (full(5), both(2, 2)), (both(2, 4), star(3)), (ring(7), full(3)), (star(5), row(3)),
                          (grid(2, 3), both(2, 3)), (((4, 17, 60, 99), ((4, 99), (17, 60), (17, 99))), ((3, 8), ((3, 8),)))]:
            self.desk = Desk()
            self.said("web " + show_web(web), "told " + show_web(told))
            webs = [web]
            for _ in range(12):
                for line in OF_WEB + OF_BOTH:
                    answer = self.plain(line, webs[-1], told)
                    self.says(line, answer)
                    seen.add(answer.split(" ")[0])
                if len(webs) > 1 and rng.random() < 0.3:
                    webs.pop()
                    self.said("back")
                elif deeds(webs[-1]):
                    deed = rng.choice(deeds(webs[-1]))
                    webs.append(done(webs[-1], deed))
                    self.said(show_row((deed,)))
            while len(webs) > 1:
                webs.pop()
                self.said("back")
                self.says("save", show_web(webs[-1]))
            self.shut(NoBack, "back")
        self.assertLessEqual({"drawn", "barred", "0", "1", "2"}, seen)


if __name__ == "__main__":
    unittest.main()
