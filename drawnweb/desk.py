"""A desk: a web and a told web, set, changed and asked of by lines of text.

A line is read to a pair: its sort, and what it brings. The sorts are "web" and "told", bringing a
web; "deed", bringing a deed; "back", bringing nothing; "asked" and "asked of both", bringing the
question.
"""

from drawnweb.deeds import done, undone
from drawnweb.errors import Lacks, NoLine, NoText
from drawnweb.fewest import fewest
from drawnweb.kinds import kinds
from drawnweb.leasts import least_spread, least_width
from drawnweb.reading import deed_words, read_web
from drawnweb.showing import show_lots, show_web
from drawnweb.verdicts import verdict
from drawnweb.webs import pieces

MOST = 2000
MOST_PLACES = 9
MOST_TOLD_PLACES = 5
DONE = "done"
NONE = "-"


def saved(web):
    """The web's text."""
    return show_web(web)


def pieces_shown(web):
    """The pieces of all places, as lots are written."""
    return show_lots(pieces(web, web[0])) or NONE


def kinds_shown(web):
    """The words of the web's kinds."""
    return " ".join(kinds(web)) or NONE


def width_shown(web):
    """The least width."""
    return str(least_width(web)[0])


def spread_shown(web):
    """The least spread."""
    return str(least_spread(web)[0])


def verdict_shown(web, told):
    """The word of the verdict, and the lots of a drawing."""
    word, found = verdict(web, told, MOST)
    return f"{word} {show_lots(found[0])}" if word == "drawn" else word


def draws_shown(web, told):
    """The fewest draws."""
    return fewest_shown(web, told, "draws")


def cuts_shown(web, told):
    """The fewest cuts."""
    return fewest_shown(web, told, "cuts")


def fewest_shown(web, told, what):
    """The fewest of draws or cuts, or the word where no number is told."""
    answer = fewest(web, told, what, MOST)
    return str(answer[1]) if answer[0] == "least" else answer[0]


OF_WEB = {
    "save": saved,
    "pieces": pieces_shown,
    "kinds": kinds_shown,
    "width": width_shown,
    "spread": spread_shown,
}

OF_BOTH = {
    "verdict": verdict_shown,
    "fewest draws": draws_shown,
    "fewest cuts": cuts_shown,
}


def read_line(line):
    """The sort of the line and what it brings; refused with NoLine, of anything."""
    if not isinstance(line, str):
        raise NoLine("a line is a text")
    if line in OF_WEB:
        return ("asked", line)
    if line in OF_BOTH:
        return ("asked of both", line)
    if line == "back":
        return ("back", None)
    try:
        return read_change(line)
    except NoText:
        raise NoLine("the desk has no such line") from None


def read_change(line):
    """The sort of a line that sets a web or does a deed, and the web or the deed."""
    word, blank, rest = line.partition(" ")
    if word == "web":
        return (word, read_sized(rest, 0, MOST_PLACES))
    if word == "told":
        return (word, read_sized(rest, 1, MOST_TOLD_PLACES))
    return ("deed", read_any_deed(line))


def read_sized(text, least, most):
    """The web that is so written, which has so many places."""
    web = read_web(text)
    if not least <= len(web[0]) <= most:
        raise NoText("the web has too many places or too few")
    return web


def read_any_deed(line):
    """The deed of any numbers that is so written."""
    word, numbers = deed_words(line)
    # Python reads no number of some thousands of figures; by three it is beyond all places.
    return (word,) + tuple([int(figures[:3]) for figures in numbers])


class Desk:
    """A web, with its deeds, and a told web; at first there is neither."""

    def __init__(self):
        self.now = None
        self.earlier = []
        self.goal = None

    def say(self, line):
        """The answer to the line; refused with NoLine, Lacks, NoDeed or NoBack."""
        sort, thing = read_line(line)
        if sort == "web":
            self.now, self.earlier = thing, []
            return DONE
        if sort == "told":
            self.goal = thing
            return DONE
        if self.now is None:
            raise Lacks("there is no web yet")
        if sort == "asked":
            answer = OF_WEB[thing]
            return answer(self.now)
        if sort == "asked of both":
            return self.answer_of_both(thing)
        self.change(sort, thing)
        return DONE

    def answer_of_both(self, question):
        """The answer to what is asked of both webs; refused with Lacks."""
        if self.goal is None:
            raise Lacks("there is no told web yet")
        answer = OF_BOTH[question]
        return answer(self.now, self.goal)

    def change(self, sort, deed):
        """The deed done, or the last one undone; refused with NoDeed or NoBack."""
        if sort == "back":
            self.now = undone(self.earlier)
        else:
            behind = done(self.now, deed)
            self.earlier.append(self.now)
            self.now = behind
