"""Webs, rows of deeds and lots read from texts, just as they are written."""

from drawnweb.errors import NoText
from drawnweb.webs import are_places, is_web

FIGURES = "0123456789"
MOST_FIGURES = 2


def read_web(text):
    """The web that is so written; refused with NoText, of anything."""
    parts = parts_of(text, " ")
    if ":" not in parts:
        raise NoText("a web's text has a colon between its places and its ties")
    at = parts.index(":")
    web = (read_places(parts[:at]), tuple([read_places(parts_of(part, ".")) for part in parts[at + 1:]]))
    if not is_web(web):
        raise NoText("the places and ties so written are no web")
    return web


def read_row(text):
    """The row of deeds that is so written; refused with NoText, of anything."""
    if isinstance(text, str) and text == "-":
        return ()
    return tuple([read_deed(part) for part in parts_of(text, ", ")])


def read_deed(text):
    """The deed of whatever web that is so written."""
    word, numbers = deed_words(text)
    return (word,) + read_places(numbers)


def deed_words(text):
    """The word and the numbers, as they are written, of a deed of any numbers that is so written."""
    word, *numbers = parts_of(text, " ")
    if (word, len(numbers)) not in (("cut", 2), ("draw", 2), ("drop", 1)):
        raise NoText("no deed is so written")
    if not all([is_number(part) for part in numbers]):
        raise NoText("a deed's places are numbers")
    return (word, numbers)


def read_lots(text):
    """The lots that are so written; refused with NoText, of anything."""
    return tuple([read_places(parts_of(part, " ")) for part in parts_of(text, " | ")])


def parts_of(text, between):
    """What the text has between these signs, one part at least."""
    if not isinstance(text, str):
        raise NoText("this is no text")
    return text.split(between)


def read_places(parts):
    """The rising places that are so written, none of no parts."""
    places = tuple([read_place(part) for part in parts])
    if not are_places(places):
        raise NoText("places are written rising")
    return places


def read_place(text):
    """The place that is so written."""
    if not is_number(text) or len(text) > MOST_FIGURES:
        raise NoText("a place is written by one figure or two, no 0 ahead")
    return int(text)


def is_number(text):
    """Whether a whole number is so written, by figures, no 0 ahead but in 0."""
    return text == "0" or (text[:1] not in ("", "0") and all([sign in FIGURES for sign in text]))
