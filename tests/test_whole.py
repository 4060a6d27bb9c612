"""All calls beside a second, plainer telling of them, and what the document says holds."""

import itertools
import random
import unittest
from fractions import Fraction

from tests.helper import LARGEST, ask, last

QUESTIONS = range(5)
OF_A_VIEW = ("unview", "table", "viewis", "share", "margin", "agree", "shown", "without", "ask")


class Plain:
    """The object with rows kept as tuples of answers, and fractions as Python has them."""

    def __init__(self):
        self.n = None
        self.views = []

    def rows(self, s):
        questions = [q for q in range(32) if s & 2 ** q]
        # The first question counts least, so it has to turn the fastest.
        return questions, [row[::-1] for row in itertools.product((0, 1), repeat=len(questions))]

    def likely(self, view, asked):
        s, table = view
        questions, rows = self.rows(s)
        told = {row: Fraction(0) for row in self.rows(asked)[1]}
        for row in rows:
            part = tuple(answer for q, answer in zip(questions, row) if asked & 2 ** q)
            told[part] += Fraction(table[row], sum(table.values()))
        return [told[row] for row in self.rows(asked)[1]]

    def same(self, one, other):
        common = one[0] & other[0]
        return self.likely(one, common) == self.likely(other, common)

    def answer(self, name, *given):
        if name != "begin" and self.n is None:
            return [-11]
        if name in OF_A_VIEW and given[0] >= len(self.views):
            return [-2]
        return getattr(self, name)(*given)

    def begin(self, n):
        if n not in (2, 3, 4, 5):
            return [-22]
        self.n = n
        self.views = []
        return [0]

    def view(self, s):
        sets = [sum(2 ** q for q in some) for size in (1, 2, 3) for some in itertools.combinations(range(self.n), size)]
        if s not in sets:
            return [-22]
        if any(s == other for other, table in self.views):
            return [-17]
        if len(self.views) == 6:
            return [-28]
        self.views.append((s, {row: 1 for row in self.rows(s)[1]}))
        return [len(self.views) - 1]

    def unview(self, i):
        self.views = self.views[:i] + self.views[i + 1:]
        return [len(self.views)]

    def table(self, i, row):
        s, table = self.views[i]
        if len(row) != len(table) or not set(row) <= set(range(101)) or set(row) == {0}:
            return [-22]
        self.views[i] = (s, dict(zip(self.rows(s)[1], row)))
        return [0]

    def viewis(self, i):
        s, table = self.views[i]
        return [s] + [table[row] for row in self.rows(s)[1]]

    def world(self, x):
        if x not in range(2 ** self.n):
            return [-22]
        for s, table in self.views:
            row = tuple(x // 2 ** q % 2 for q in self.rows(s)[0])
            if table[row] < 100:
                table[row] += 1
        return [len(self.views)]

    def share(self, i, c):
        likely = self.likely(self.views[i], self.views[i][0])
        if c >= len(likely):
            return [-2]
        return [0, likely[c].numerator, likely[c].denominator]

    def margin(self, i, s):
        if s & self.views[i][0] != s:
            return [-22]
        likely = self.likely(self.views[i], s)
        return [len(likely)] + [number for part in likely for number in (part.numerator, part.denominator)]

    def agree(self, i, j):
        if j >= len(self.views):
            return [-2]
        return [int(self.same(self.views[i], self.views[j]))]

    def off(self):
        for i, j in itertools.combinations(range(len(self.views)), 2):
            if not self.same(self.views[i], self.views[j]):
                return [i, j]
        return [-6]

    def row_in(self, i, x):
        """The answers of a world to the questions of view i."""
        return tuple(x // 2 ** q % 2 for q in self.rows(self.views[i][0])[0])

    def fitting(self, *left_out):
        """The worlds that fit all views but those left out."""
        found = set(range(2 ** self.n))
        for i, (s, table) in enumerate(self.views):
            if i not in left_out:
                found -= {x for x in found if table[self.row_in(i, x)] == 0}
        return sorted(found)

    def worlds(self):
        found = self.fitting()
        return [len(found)] + found

    def fits(self, x):
        if x not in range(2 ** self.n):
            return [-22]
        found = [i for i, (s, table) in enumerate(self.views) if table[self.row_in(i, x)] > 0]
        return [len(found)] + found

    def ask(self, i, c):
        rows = self.rows(self.views[i][0])[1]
        if c >= len(rows):
            return [-2]
        found = [x for x in self.fitting() if self.row_in(i, x) == rows[c]]
        return [len(found)] + found

    def shown(self, i, c):
        told = self.ask(i, c)
        if told == [-2]:
            return told
        if self.viewis(i)[1 + c] == 0:
            return [-33]
        return [min(told[0], 1)]

    def lonely(self):
        found = [(i, c) for i, (s, table) in enumerate(self.views) for c in range(len(table))]
        found = [place for place in found if self.shown(*place) == [0]]
        return [len(found)] + [number for place in found for number in place]

    def fewest(self):
        # By size, and among like ones in the order in which itertools has them, rows rising.
        for size in range(len(self.views) + 1):
            for some in itertools.combinations(range(len(self.views)), size):
                if not self.fitting(*set(range(len(self.views))).difference(some)):
                    return [size, *some]
        return [-6]

    def most(self):
        best = [0, self.fits(0)[0]]
        for x in range(1, 2 ** self.n):
            if self.fits(x)[0] > best[1]:
                best = [x, self.fits(x)[0]]
        return best

    def together(self, s):
        if s not in range(2 ** len(self.views)):
            return [-22]
        return [int(self.fitting(*[i for i in range(6) if not s & 2 ** i]) != [])]

    def without(self, i):
        found = self.fitting(i)
        return [len(found)] + found

    def sure(self, q):
        if q >= self.n:
            return [-2]
        said = {x // 2 ** q % 2 for x in self.fitting()}
        return [-33 if not said else 2 if len(said) == 2 else said.pop()]


NAMES = (
    ["begin"] + ["view"] * 16 + ["unview"] * 2 + ["table"] * 30 + ["world"] * 2
    + ["viewis", "share", "margin", "agree", "off"] * 3
    + ["worlds", "fits", "shown", "lonely", "fewest", "most", "together", "without", "sure", "ask"] * 5
)


def below(source, count):
    """Mostly a number below count, else one at its edge or far beyond."""
    if count > 0 and source.random() < 0.9:
        return source.randrange(count)
    return source.choice([count, count + 1, LARGEST])


def some_row(source, length):
    """A row for a table: mostly of the length that is asked for, and often with little seen."""
    if source.random() < 0.1:
        length = source.randrange(11)
    top = source.choice([1, 1, 1, 1, 2, 100, 101])
    return [source.choice([0, 0, source.randint(0, top)]) for place in range(length)]


def some_call(source, n, views):
    name = source.choice(NAMES)
    view = below(source, len(views))
    s, table = views[view] if view < len(views) else (0, [])
    given = {
        "begin": lambda: (source.choice([n, n, 1, 6]),),
        "view": lambda: (below(source, 2 ** n),),
        "table": lambda: (view, some_row(source, len(table))),
        "world": lambda: (below(source, 2 ** n),),
        "margin": lambda: (view, source.choice([s, s & source.randrange(32), below(source, 2 ** n)])),
        "agree": lambda: (view, below(source, len(views))),
        "fits": lambda: (below(source, 2 ** n),),
        "together": lambda: (below(source, 2 ** len(views)),),
        "sure": lambda: (below(source, n),),
    }
    if name in given:
        return (name, *given[name]())
    if name in ("share", "shown", "ask"):
        return (name, view, below(source, len(table)))
    return (name, view) if name in OF_A_VIEW else (name,)


class BesideThePlainOne(unittest.TestCase):
    def test_lists_of_calls(self):
        source = random.Random(1)
        met = set()
        for turn in range(500):
            n = source.choice([2, 3, 4, 5])
            plain = Plain()
            calls, expected = [], []
            for place in range(60):
                first = place == 0 and source.random() < 0.9
                calls.append(("begin", n) if first else some_call(source, n, plain.views))
                expected.append(plain.answer(*calls[-1]))
            self.assertEqual(ask(*calls), expected, calls)
            met.update((call[0], min(answer[0], 0)) for call, answer in zip(calls, expected))
        for name, refusals in (
            ("begin", (0, -22)), ("view", (0, -11, -22, -17, -28)), ("unview", (0, -11, -2)),
            ("table", (0, -11, -2, -22)), ("viewis", (0, -11, -2)), ("world", (0, -11, -22)),
            ("share", (0, -11, -2)), ("margin", (0, -11, -2, -22)), ("agree", (0, -11, -2)), ("off", (0, -11, -6)),
            ("worlds", (0, -11)), ("fits", (0, -11, -22)), ("shown", (0, -11, -2, -33)), ("lonely", (0, -11)),
            ("fewest", (0, -11, -6)), ("most", (0, -11)), ("together", (0, -11, -22)), ("without", (0, -11, -2)),
            ("sure", (0, -11, -2, -33)), ("ask", (0, -11, -2)),
        ):
            self.assertEqual({told for call, told in met if call == name}, set(refusals), name)


class OfOneWhole(unittest.TestCase):
    def views_of(self, source, n, whole):
        sets = [s for s in range(1, 2 ** n) if bin(s).count("1") <= 3]
        chosen = source.sample(sets, min(6, len(sets)))
        calls = [("begin", n)] + [("view", s) for s in chosen]
        for i, s in enumerate(chosen):
            questions = [q for q in QUESTIONS if s & 2 ** q]
            row = [0] * 2 ** len(questions)
            for x, times in enumerate(whole):
                row[sum((x >> q & 1) << place for place, q in enumerate(questions))] += times
            calls.append(("table", i, row))
        return chosen, calls

    def test_tables_of_one_whole_agree_and_all_of_it_fits(self):
        source = random.Random(2)
        for turn in range(300):
            n = source.choice([2, 3, 4, 5])
            whole = [0] * 2 ** n
            for place in range(source.randint(1, 100)):
                whole[source.randrange(2 ** n)] += 1
            chosen, calls = self.views_of(source, n, whole)
            found = ask(*calls, ("worlds",), ("lonely",), ("fewest",), ("off",))
            self.assertEqual(found[-3:], [[0], [-6], [-6]])
            self.assertNotIn([-22], found)
            self.assertLessEqual({x for x, times in enumerate(whole) if times}, set(found[-4][1:]))
            seen = [x for x, times in enumerate(whole) if times]
            for answer in ask(*calls, *[("fits", x) for x in seen])[len(calls):]:
                self.assertEqual(answer, [len(chosen), *range(len(chosen))])

    def test_two_that_agree_say_the_same_of_what_both_have(self):
        source = random.Random(3)
        agreed = 0
        for turn in range(2000):
            tables = [[source.randint(0, 2) for place in range(8)] for view in range(2)]
            calls = [("begin", 4), ("view", 7), ("view", 14), ("table", 0, tables[0]), ("table", 1, tables[1])]
            asked = [("margin", i, s) for s in (0, 2, 4, 6) for i in (0, 1)]
            found = ask(*calls, ("agree", 0, 1), *asked)
            if found[3:5] != [[0], [0]]:
                continue
            margins = found[6:]
            self.assertEqual(found[5], [int(margins[0::2] == margins[1::2])])
            agreed += found[5] == [1]
        self.assertGreater(agreed, 0)


def some_thing(source):
    """Calls that make a few views in which not much was seen, so that some can't be together."""
    n = source.choice([2, 3, 4, 5])
    sets = [s for s in range(1, 2 ** n) if bin(s).count("1") <= 3]
    chosen = source.sample(sets, source.randint(1, min(6, len(sets))))
    calls = [("begin", n)] + [("view", s) for s in chosen]
    for i, s in enumerate(chosen):
        row = [source.choice([0, 0, 1, 100]) for place in range(2 ** bin(s).count("1"))]
        calls.append(("table", i, row if any(row) else [1] * len(row)))
    return n, len(chosen), calls


class WhatHolds(unittest.TestCase):
    def things(self, seed):
        source = random.Random(seed)
        for turn in range(400):
            yield some_thing(source)

    def test_the_fewest_cannot_be_together_and_fewer_can(self):
        sizes = set()
        for n, count, calls in self.things(4):
            fewest = last(*calls, ("fewest",))
            sizes.add(fewest[0])
            smaller = count if fewest == [-6] else fewest[0] - 1
            for size in range(smaller + 1):
                for some in itertools.combinations(range(count), size):
                    self.assertEqual(last(*calls, ("together", sum(2 ** i for i in some))), [1], calls)
            if fewest != [-6]:
                self.assertEqual(fewest[0], len(fewest) - 1)
                self.assertEqual(last(*calls, ("together", sum(2 ** i for i in fewest[1:]))), [0], calls)
        self.assertLessEqual({-6, 2, 3}, sizes)

    def test_no_world_fits_more_views_than_the_one_told(self):
        for n, count, calls in self.things(5):
            found = ask(*calls, ("most",), *[("fits", x) for x in range(2 ** n)])
            (world, views), fitted = found[len(calls)], [answer[0] for answer in found[len(calls) + 1:]]
            self.assertEqual(views, max(fitted))
            self.assertEqual(world, fitted.index(max(fitted)))

    def test_what_is_seen_by_all_fits_all(self):
        for n, count, calls in self.things(6):
            x = len(calls) * 7 % 2 ** n
            found = ask(*calls, ("world", x), ("worlds",), ("fits", x), ("fewest",), ("together", 2 ** count - 1))
            self.assertIn(x, found[-4][1:])
            self.assertEqual(found[-3:], [[count, *range(count)], [-6], [1]])

    def test_fewer_views_no_fewer_worlds(self):
        for n, count, calls in self.things(7):
            for i in range(count):
                worlds, without, left, fewer = ask(*calls, ("worlds",), ("without", i), ("unview", i), ("worlds",))[-4:]
                self.assertLessEqual(set(worlds[1:]), set(without[1:]))
                self.assertEqual(without, fewer)

    def test_the_rows_of_a_view_share_out_the_worlds(self):
        for n, count, calls in self.things(8):
            worlds = last(*calls, ("worlds",))[1:]
            for i in range(count):
                rows = len(last(*calls, ("viewis", i))) - 1
                asked = ask(*calls, *[("ask", i, c) for c in range(rows)])[len(calls):]
                shown = ask(*calls, *[("shown", i, c) for c in range(rows)])[len(calls):]
                self.assertEqual(sorted(x for answer in asked for x in answer[1:]), worlds)
                self.assertEqual([answer == [1] for answer in shown], [answer[0] > 0 for answer in asked])
