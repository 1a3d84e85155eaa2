"""The interface: each name in its module, with its arguments by their names."""

import importlib
import inspect
import unittest

# For each module what it has, as DOC.md writes it.
INTERFACE = {
    "webs": "is_web(thing) near(web,place) within(web,some) pieces(web,some) hangs(web,some) way(web,some,one,other)",
    "made": "full(many) row(many) ring(many) star(many) both(one,other) spider() diamond() grid(wide,high) beside(one,other)",
    "deeds": "is_deed(web,thing) deeds(web) done(web,deed) played(web,row) lots_behind(web,row)",
    "forms": "renamed(web,names) alike(one,other) form(web) small(many) held(web)",
    "drawings": "shows_drawn(web,told,thing) drawing_of(web,told,lots) extra(web,told,lots) row_of(web,told,drawing)",
    "orders": "widths(web,order) spreads(web,order) width(web,order) spread(web,order)",
    "leasts": "least_width(web) least_spread(web) width_table(web) spread_table(web)",
    "tablelooks": "shows_width(web,many,thing) shows_spread(web,many,thing)",
    "kinds": "never(word) is_kind(word,web) kinds(web)",
    "nots": "not_kind(word,web)",
    "seeking": "sought(web,told,what,below,most)",
    "booklooks": "shows_book(web,told,what,below,thing)",
    "fewest": "fewest(web,told,what,most)",
    "fewlooks": "shows_fewest(web,told,what,thing)",
    "walls": "sides(web,wall) holds_on(told,many)",
    "barlooks": "shows_barred(web,told,thing)",
    "verdicts": "verdict(web,told,most) walled(web,told,wall,most)",
    "kept": "Kept(web,tolds,most)",
    "keptlooks": "shows_kept(web,told,thing)",
    "showing": "show_web(web) show_row(row) show_lots(lots)",
    "reading": "read_web(text) read_row(text) read_lots(text)",
    "desk": "Desk()",
}
METHODS = {
    ("kept", "Kept"): "web() do(deed) back() words() searches() paper(k)",
    ("desk", "Desk"): "say(line)",
}


def written(name, thing):
    """The name with the arguments it takes, the object itself left out."""
    names = [name for name in inspect.signature(thing).parameters if name != "self"]
    return f"{name}({','.join(names)})"


class Interface(unittest.TestCase):
    def test_functions_and_classes(self):
        for module, line in INTERFACE.items():
            there = importlib.import_module(f"drawnweb.{module}")
            for want in line.split():
                name = want.partition("(")[0]
                self.assertEqual(written(name, getattr(there, name)), want, module)

    def test_methods(self):
        for (module, name), line in METHODS.items():
            made = getattr(importlib.import_module(f"drawnweb.{module}"), name)
            for want in line.split():
                method = want.partition("(")[0]
                self.assertEqual(written(method, getattr(made, method)), want)


if __name__ == "__main__":
    unittest.main()
