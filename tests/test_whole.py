"""The ten calls beside a second, plainer telling of them, and what the document says holds."""

import itertools
import random
import unittest
from fractions import Fraction

from tests.helper import LARGEST, ask

QUESTIONS = range(5)


class Plain:
    """The object with rows kept as tuples of answers, and fractions as Python has them."""

    def __init__(self):
        self.n = None
        self.views = []

    def rows(self, s):
        questions = [q for q in range(32) if s & 2 ** q]
        # The first question counts least, so it has to turn the fastest.
        return questions, [row[::-1] for row in itertools.product((0, 1), repeat=len(questions))]

    def likely(self, view, asked):
        s, table = view
        questions, rows = self.rows(s)
        told = {row: Fraction(0) for row in self.rows(asked)[1]}
        for row in rows:
            part = tuple(answer for q, answer in zip(questions, row) if asked & 2 ** q)
            told[part] += Fraction(table[row], sum(table.values()))
        return [told[row] for row in self.rows(asked)[1]]

    def same(self, one, other):
        common = one[0] & other[0]
        return self.likely(one, common) == self.likely(other, common)

    def answer(self, name, *given):
        if name != "begin" and self.n is None:
            return [-11]
        if name in ("unview", "table", "viewis", "share", "margin", "agree") and given[0] >= len(self.views):
            return [-2]
        return getattr(self, name)(*given)

    def begin(self, n):
        if n not in (2, 3, 4, 5):
            return [-22]
        self.n = n
        self.views = []
        return [0]

    def view(self, s):
        sets = [sum(2 ** q for q in some) for size in (1, 2, 3) for some in itertools.combinations(range(self.n), size)]
        if s not in sets:
            return [-22]
        if any(s == other for other, table in self.views):
            return [-17]
        if len(self.views) == 6:
            return [-28]
        self.views.append((s, {row: 1 for row in self.rows(s)[1]}))
        return [len(self.views) - 1]

    def unview(self, i):
        self.views = self.views[:i] + self.views[i + 1:]
        return [len(self.views)]

    def table(self, i, row):
        s, table = self.views[i]
        if len(row) != len(table) or not set(row) <= set(range(101)) or set(row) == {0}:
            return [-22]
        self.views[i] = (s, dict(zip(self.rows(s)[1], row)))
        return [0]

    def viewis(self, i):
        s, table = self.views[i]
        return [s] + [table[row] for row in self.rows(s)[1]]

    def world(self, x):
        if x not in range(2 ** self.n):
            return [-22]
        for s, table in self.views:
            row = tuple(x // 2 ** q % 2 for q in self.rows(s)[0])
            if table[row] < 100:
                table[row] += 1
        return [len(self.views)]

    def share(self, i, c):
        likely = self.likely(self.views[i], self.views[i][0])
        if c >= len(likely):
            return [-2]
        return [0, likely[c].numerator, likely[c].denominator]

    def margin(self, i, s):
        if s & self.views[i][0] != s:
            return [-22]
        likely = self.likely(self.views[i], s)
        return [len(likely)] + [number for part in likely for number in (part.numerator, part.denominator)]

    def agree(self, i, j):
        if j >= len(self.views):
            return [-2]
        return [int(self.same(self.views[i], self.views[j]))]

    def off(self):
        for i, j in itertools.combinations(range(len(self.views)), 2):
            if not self.same(self.views[i], self.views[j]):
                return [i, j]
        return [-6]


def some_call(source, n):
    name = source.choice(
        ["begin"] + ["view"] * 4 + ["unview"] + ["table"] * 4 + ["viewis", "world", "share", "margin", "agree"] * 2
        + ["off"] * 2
    )
    view = source.choice([0, 0, 1, 1, 2, 3, 4, 5, 6, LARGEST])
    some_set = source.choice([source.randrange(2 ** n), source.randrange(2 ** n), source.randrange(64), LARGEST])
    if name == "begin":
        return (name, source.choice([n, n, 1, 6]))
    if name in ("view", "world"):
        return (name, some_set)
    if name in ("unview", "viewis"):
        return (name, view)
    if name == "table":
        length = source.choice([2, 4, 4, 4, 8, 8, source.randrange(11)])
        top = source.choice([1, 1, 2, 100, 101])
        return (name, view, [source.randint(0, top) for place in range(length)])
    if name == "share":
        return (name, view, source.choice([source.randrange(9), LARGEST]))
    if name == "margin":
        return (name, view, some_set)
    if name == "agree":
        return (name, view, source.choice([0, 1, 2, 3, LARGEST]))
    return (name,)


class BesideThePlainOne(unittest.TestCase):
    def test_lists_of_calls(self):
        source = random.Random(1)
        met = set()
        for turn in range(1500):
            n = source.choice([2, 3, 4, 5])
            calls = [("begin", n)] if source.random() < 0.9 else []
            calls += [some_call(source, n) for place in range(60 - len(calls))]
            plain = Plain()
            expected = [plain.answer(*call) for call in calls]
            self.assertEqual(ask(*calls), expected, calls)
            met.update((call[0], min(answer[0], 0)) for call, answer in zip(calls, expected))
        for name, refusals in (
            ("begin", (0, -22)), ("view", (0, -11, -22, -17, -28)), ("unview", (0, -11, -2)),
            ("table", (0, -11, -2, -22)), ("viewis", (0, -11, -2)), ("world", (0, -11, -22)),
            ("share", (0, -11, -2)), ("margin", (0, -11, -2, -22)), ("agree", (0, -11, -2)), ("off", (0, -11, -6)),
        ):
            self.assertEqual({told for call, told in met if call == name}, set(refusals), name)


class OfOneWhole(unittest.TestCase):
    def views_of(self, source, n, whole):
        sets = [s for s in range(1, 2 ** n) if bin(s).count("1") <= 3]
        chosen = source.sample(sets, min(6, len(sets)))
        calls = [("begin", n)] + [("view", s) for s in chosen]
        for i, s in enumerate(chosen):
            questions = [q for q in QUESTIONS if s & 2 ** q]
            row = [0] * 2 ** len(questions)
            for x, times in enumerate(whole):
                row[sum((x >> q & 1) << place for place, q in enumerate(questions))] += times
            calls.append(("table", i, row))
        return chosen, calls

    def test_tables_of_one_whole_agree(self):
        source = random.Random(2)
        for turn in range(300):
            n = source.choice([2, 3, 4, 5])
            whole = [0] * 2 ** n
            for place in range(source.randint(1, 100)):
                whole[source.randrange(2 ** n)] += 1
            chosen, calls = self.views_of(source, n, whole)
            found = ask(*calls, ("off",))
            self.assertEqual(found[-1], [-6])
            self.assertNotIn([-22], found)

    def test_two_that_agree_say_the_same_of_what_both_have(self):
        source = random.Random(3)
        agreed = 0
        for turn in range(2000):
            tables = [[source.randint(0, 2) for place in range(8)] for view in range(2)]
            calls = [("begin", 4), ("view", 7), ("view", 14), ("table", 0, tables[0]), ("table", 1, tables[1])]
            asked = [("margin", i, s) for s in (0, 2, 4, 6) for i in (0, 1)]
            found = ask(*calls, ("agree", 0, 1), *asked)
            if found[3:5] != [[0], [0]]:
                continue
            margins = found[6:]
            self.assertEqual(found[5], [int(margins[0::2] == margins[1::2])])
            agreed += found[5] == [1]
        self.assertGreater(agreed, 0)
