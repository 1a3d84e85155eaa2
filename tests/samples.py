"""What the tests share: odd things, small webs, and slow but plain answers to compare with."""

import copy
import itertools


class Prickly:
    """Raises at nearly all that can be done with it."""

    def prick(self, *args):
        raise RuntimeError("touched")

    __eq__ = __ne__ = __lt__ = __le__ = __gt__ = __ge__ = prick
    __hash__ = __len__ = __iter__ = __bool__ = __getitem__ = __contains__ = __int__ = __index__ = prick


def nested(wrap, core, depth=40):
    for _ in range(depth):
        core = wrap(core)
    return core


def wide(depth):
    """A tuple so deep whose parts at each depth are one and the same."""
    return nested(lambda x: (x, x, x), 0, depth)


def odd_things():
    """Things of many kinds, none of them a web or a book."""
    return [
        None, True, False, 0, 1, -1, 10 ** 40, "", "web", "few", "ask", b"", b"few", [], {}, set(), frozenset(),
        (), ((),), ((), (), ()), ("",), (None,), (None, None), (True, False), ([], []), ([], ()), ((), []), ((), None),
        ("", ""), ("ab", ()), (b"\x00\x01", ()), (range(3), ()), ({}, {}), ({0: 1}, ()), ({0, 1}, ()), (frozenset(), ()),
        ((0, None), ()), ((0, "1"), ()), (("0",), ()), ((0, (1,)), ()), ((0, 1), (0, 1)), ((0, 1), ("01",)),
        ((0, 1), ((0, 1), None)), object(), object, len, lambda x: x, ValueError("no"), Ellipsis, NotImplemented,
        range(2), iter(()), bytearray(b"ab"), memoryview(b"ab"), Prickly(), (Prickly(),), (Prickly(), Prickly()),
        ((Prickly(),), ()), ((0, Prickly()), ()), ((0, 1), (Prickly(),)), ((0, 1), ((0, Prickly()),)),
        ((0, 1), ((Prickly(), Prickly()),)), ((0, 1), Prickly()), (Prickly(), ()),
        nested(lambda x: (x,), ()), nested(lambda x: [x], []), nested(lambda x: (x, x), 0), nested(lambda x: {0: x}, 0),
        nested(lambda x: (x, ()), ()), nested(lambda x: ((), x), ()), nested(lambda x: ("ask", 0, (x, x)), ("few",)),
        nested(lambda x: ("ask", 0, [x]), 1), wide(8), wide(40),
    ]


PLAIN = (tuple, int, str, bool, type(None))


def is_plain(thing):
    """Whether a told thing is tuples, whole numbers, texts, truths and None all through."""
    if type(thing) not in PLAIN:
        return False
    return type(thing) is not tuple or all(is_plain(part) for part in thing)


def asked(case, call, *args):
    """The answer, looked at for point 2: plain, the same when asked again, nothing handed in changed."""
    before = copy.deepcopy(args)
    answer = call(*args)
    case.assertTrue(is_plain(answer), answer)
    case.assertEqual(repr(call(*args)), repr(answer))
    case.assertEqual(args, before)
    return answer


def all_webs(many):
    """All webs of the places from 0 on, so many."""
    pairs = list(itertools.combinations(range(many), 2))
    for size in range(len(pairs) + 1):
        for ties in itertools.combinations(pairs, size):
            yield (tuple(range(many)), ties)


def called(web, names):
    """The web with its places, in order, called so."""
    new = dict(zip(web[0], names))
    return (tuple(sorted(names)), tuple(sorted(tuple(sorted((new[a], new[b]))) for a, b in web[1])))


def holed(web):
    """The web under names with holes, in another order."""
    return called(web, [98 - 4 * k if k % 2 else 3 + 4 * k for k in range(len(web[0]))])


def plain_form(many, ties):
    """A form that two webs of so many places have in common just where they are alike."""
    best = None
    by_ties = {}
    for place in range(many):
        by_ties.setdefault(sum(place in tie for tie in ties), []).append(place)
    groups = [by_ties[key] for key in sorted(by_ties)]
    for orders in itertools.product(*[list(itertools.permutations(group)) for group in groups]):
        new = {place: at for at, place in enumerate(itertools.chain(*orders))}
        form = tuple(sorted(tuple(sorted((new[a], new[b]))) for a, b in ties))
        best = form if best is None else min(best, form)
    return (many, best)


def form_of(web):
    at = {place: k for k, place in enumerate(web[0])}
    return plain_form(len(at), [(at[a], at[b]) for a, b in web[1]])


def all_forms(many):
    """The forms of all webs of so many places."""
    if many == 0:
        return {(0, ())}
    told = set()
    for _, ties in all_forms(many - 1):
        for size in range(many):
            for some in itertools.combinations(range(many - 1), size):
                told.add(plain_form(many, list(ties) + [(place, many - 1) for place in some]))
    return told


def held_forms(form, known):
    """The forms of all webs that come from one of this form by cuts, drops and draws."""
    if form not in known:
        many, ties = form
        nexts = {plain_form(many, [tie for tie in ties if tie != cut]) for cut in ties}
        nexts |= {without(many, ties, gone) for gone in range(many)}
        for a, b in ties:
            drawn = {tuple(sorted((a if x == b else x, a if y == b else y))) for x, y in ties}
            nexts.add(without(many, drawn - {(a, a)}, b))
        known[form] = {form}.union(*[held_forms(step, known) for step in nexts])
    return known[form]


def without(many, ties, gone):
    left = [place for place in range(many) if place != gone]
    return form_of((tuple(left), [tie for tie in ties if gone not in tie]))


def refused(case, refusal, call, *args):
    """The refusal, which must be of just this class, and come again when asked again."""
    for _ in range(2):
        try:
            answer = call(*args)
        except refusal as error:
            case.assertIs(type(error), refusal)
            told = error
        else:
            case.fail(f"answered {answer!r}")
    return told


def some_rows(rng, web, most, deeds, done):
    """Rows of random deeds of the web, each as long as it lasts, at most so long."""
    while True:
        row, now = (), web
        while deeds(now) and len(row) < most:
            deed = rng.choice(deeds(now))
            row, now = row + (deed,), done(now, deed)
        yield row, now
