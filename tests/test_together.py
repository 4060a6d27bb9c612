"""Promise 4: fewest, most, together, without."""

import itertools
import unittest

from tests.helper import LARGEST, RING, ask, last

ALIKE = [1, 0, 0, 1]
OTHER = [0, 1, 1, 0]
# A first question answered 1 is never followed by a second one answered 0.
IMPLIES = [1, 0, 1, 1]


def thing(n, *views):
    """The calls that make views of these sets with these tables."""
    calls = [("begin", n)] + [("view", s) for s, table in views]
    return calls + [("table", i, table) for i, (s, table) in enumerate(views)]


CHAIN = thing(5, (1, [0, 1]), (3, IMPLIES), (6, IMPLIES), (12, IMPLIES), (24, IMPLIES), (16, [1, 0]))
ONE_WITHIN = thing(2, (3, [1, 1, 1, 1]), (1, [0, 4]))


class Fewest(unittest.TestCase):
    def test_some_world_fits_all(self):
        self.assertEqual(last(("begin", 2), ("fewest",)), [-6])
        self.assertEqual(last(("begin", 2), ("view", 2), ("table", 0, [0, 1]), ("fewest",)), [-6])
        self.assertEqual(last(*ONE_WITHIN, ("fewest",)), [-6])
        self.assertEqual(last(*RING, ("world", 3), ("fewest",)), [-6])

    def test_two(self):
        self.assertEqual(last(*thing(2, (1, [1, 0]), (3, [0, 1, 0, 1])), ("fewest",)), [2, 0, 1])

    def test_a_ring_of_three(self):
        self.assertEqual(last(*RING, ("off",)), [-6])
        self.assertEqual(last(*RING, ("fewest",)), [3, 0, 1, 2])

    def test_rings_of_four_and_five(self):
        four = thing(4, (3, ALIKE), (6, ALIKE), (12, ALIKE), (9, OTHER))
        self.assertEqual(last(*four, ("fewest",)), [4, 0, 1, 2, 3])
        five = thing(5, (3, ALIKE), (6, ALIKE), (12, ALIKE), (24, ALIKE), (17, OTHER))
        self.assertEqual(last(*five, ("fewest",)), [5, 0, 1, 2, 3, 4])

    def test_all_six(self):
        self.assertEqual(last(*CHAIN, ("fewest",)), [6, 0, 1, 2, 3, 4, 5])

    def test_fewer_go_ahead_of_lesser_numbers(self):
        calls = thing(5, (3, ALIKE), (6, ALIKE), (5, OTHER), (8, [1, 0]), (24, [0, 1, 0, 0]))
        found = ask(*calls, ("fewest",), ("unview", 4), ("fewest",), ("unview", 1), ("fewest",))
        self.assertEqual(found[11:], [[2, 3, 4], [4], [3, 0, 1, 2], [3], [-6]])

    def test_views_between_that_are_not_among_them(self):
        calls = thing(5, (8, [1, 1]), (3, ALIKE), (16, [1, 0]), (6, ALIKE), (24, [1, 1, 1, 1]), (5, OTHER))
        self.assertEqual(last(*calls, ("fewest",)), [3, 1, 3, 5])

    def test_the_lesser_number_where_two_first_differ(self):
        # 0 and 5 can't be together, nor 1 and 2: told as sets the second would be less.
        calls = thing(
            5, (1, [1, 0]), (2, [1, 0]), (6, [0, 1, 0, 0]), (8, [1, 0]), (16, [1, 0]), (17, [0, 1, 0, 0])
        )
        self.assertEqual(last(*calls, ("fewest",)), [2, 0, 5])
        # 0 with 2, 1 with 2.
        self.assertEqual(last(*thing(2, (1, [1, 0]), (2, [1, 0]), (3, [0, 0, 0, 1])), ("fewest",)), [2, 0, 2])
        # 0 with 1, 0 with 2.
        self.assertEqual(last(*thing(2, (3, [0, 0, 0, 1]), (1, [1, 0]), (2, [1, 0])), ("fewest",)), [2, 0, 1])

    def test_of_like_threes(self):
        # Two rings have the first view in common: 0, 1, 5 and 0, 2, 3.
        calls = thing(5, (3, ALIKE), (6, ALIKE), (10, ALIKE), (9, OTHER), (16, [1, 1]), (5, OTHER))
        self.assertEqual(last(*calls, ("fewest",)), [3, 0, 1, 5])

    def test_each_change_is_heeded(self):
        found = ask(
            *RING, ("fewest",), ("table", 1, [1, 1, 0, 1]), ("fewest",), ("table", 1, OTHER), ("fewest",),
            ("table", 0, [0, 1, 0, 0]), ("table", 2, [1, 0, 1, 0]), ("fewest",), ("begin", 1), ("fewest",),
            ("begin", 3), ("fewest",),
        )
        self.assertEqual(
            found[7:],
            [[3, 0, 1, 2], [0], [-6], [0], [-6], [0], [0], [2, 0, 2], [-22], [2, 0, 2], [0], [-6]],
        )


class Most(unittest.TestCase):
    def test_no_views(self):
        for n in (2, 3, 4, 5):
            self.assertEqual(last(("begin", n), ("most",)), [0, 0])

    def test_all_views(self):
        self.assertEqual(last(*thing(2, (3, [0, 0, 1, 1]), (1, [0, 1])), ("most",)), [3, 2])
        self.assertEqual(last(*thing(5, (7, [0] * 7 + [1]), (28, [0] * 7 + [1])), ("most",)), [31, 2])
        six = [("begin", 5)] + [("view", s) for s in (1, 2, 4, 8, 16, 3)]
        self.assertEqual(last(*six, ("most",)), [0, 6])

    def test_the_first_of_those_that_fit_the_most(self):
        self.assertEqual(last(*thing(2, (1, [0, 1]), (2, [0, 1]), (3, OTHER)), ("most",)), [1, 2])
        self.assertEqual(last(*thing(2, (1, [1, 1]), (2, [0, 1])), ("most",)), [2, 2])
        self.assertEqual(last(*RING, ("most",)), [0, 2])
        self.assertEqual(last(*CHAIN, ("most",)), [0, 5])

    def test_more_views_go_ahead_of_lesser_worlds(self):
        self.assertEqual(last(*thing(2, (1, [0, 1]), (2, [0, 1]), (3, [1, 0, 0, 0])), ("most",)), [3, 2])

    def test_each_change_is_heeded(self):
        found = ask(*RING, ("most",), ("world", 6), ("most",), ("unview", 1), ("most",), ("begin", 3), ("most",))
        self.assertEqual(found[7:], [[0, 2], [3], [6, 3], [2], [3, 2], [0], [0, 0]])


class Together(unittest.TestCase):
    def test_each_set_of_a_ring(self):
        self.assertEqual(ask(*RING, *[("together", s) for s in range(8)])[7:], [[1]] * 7 + [[0]])

    def test_each_set_of_six(self):
        found = ask(*CHAIN, *[("together", s) for s in range(20, 64)])
        self.assertEqual(found[13:], [[1]] * 43 + [[0]])

    def test_view_i_counts_2_to_the_power_of_i(self):
        # Views 0 and 3 can't be together.
        calls = thing(4, (1, [1, 0]), (2, [1, 0]), (4, [1, 0]), (9, [0, 1, 0, 0]))
        found = ask(*calls, *[("together", s) for s in range(16)])
        self.assertEqual(found[9:], [[0] if s in (9, 11, 13, 15) else [1] for s in range(16)])

    def test_no_views(self):
        self.assertEqual(ask(("begin", 2), ("together", 0), ("together", 1))[1:], [[1], [-22]])
        self.assertEqual(last(*RING, ("together", 0)), [1])

    def test_no_set_of_views(self):
        sets = (1, 2, 4, 8, 16, 3)
        for count in range(7):
            begun = [("begin", 5)] + [("view", s) for s in sets[:count]]
            self.assertEqual(last(*begun, ("together", (1 << count) - 1)), [1], count)
            for s in (1 << count, (1 << count) + 1, 64, 1 << 31, LARGEST):
                self.assertEqual(last(*begun, ("together", s)), [-22], (count, s))

    def test_numbers_are_those_behind_an_unview(self):
        calls = thing(3, (4, [1, 0]), (1, [1, 0]), (3, [0, 1, 0, 1]))
        found = ask(*calls, ("together", 6), ("together", 3), ("unview", 0), ("together", 6), ("together", 3))
        self.assertEqual(found[7:], [[0], [1], [2], [-22], [0]])


class Without(unittest.TestCase):
    def test_each_view_of_a_ring(self):
        found = ask(*RING, *[("without", i) for i in range(3)], ("worlds",))
        self.assertEqual(found[7:], [[2, 1, 6], [2, 3, 4], [2, 0, 7], [0]])

    def test_worlds_that_fit_that_view_too_are_among_them(self):
        self.assertEqual(ask(*ONE_WITHIN, ("without", 0), ("without", 1))[5:], [[2, 1, 3], [4, 0, 1, 2, 3]])

    def test_the_only_view(self):
        for n in (2, 3, 4, 5):
            calls = [("begin", n), ("view", 3), ("table", 0, [0, 1, 0, 0]), ("without", 0)]
            self.assertEqual(last(*calls), [1 << n, *range(1 << n)])

    def test_the_last_of_six(self):
        self.assertEqual(ask(*CHAIN, ("without", 0), ("without", 5))[13:], [[1, 0], [1, 31]])

    def test_still_none(self):
        calls = thing(2, (1, [1, 0]), (3, [0, 1, 0, 1]), (2, [1, 1]))
        self.assertEqual(ask(*calls, *[("without", i) for i in range(3)])[7:], [[2, 1, 3], [2, 0, 2], [0]])

    def test_no_such_view(self):
        self.assertEqual(last(("begin", 2), ("without", 0)), [-2])
        for i in (3, 4, 6, 32, LARGEST):
            self.assertEqual(last(*RING, ("without", i)), [-2], i)
        self.assertEqual(last(*CHAIN, ("without", 6)), [-2])

    def test_the_view_stays(self):
        found = ask(*RING, ("without", 1), ("viewis", 1), ("worlds",), ("unview", 1), ("worlds",), ("without", 2))
        self.assertEqual(found[7:], [[2, 3, 4], [6, 1, 0, 0, 1], [0], [2], [2, 3, 4], [-2]])


class AllFour(unittest.TestCase):
    def test_asking_changes_nothing(self):
        asked = [
            ("fewest",), ("most",), ("together", 5), ("together", 8), ("without", 0), ("without", 3),
            ("viewis", 0), ("viewis", 1), ("viewis", 2),
        ]
        found = ask(*RING, *asked, *asked)[7:]
        self.assertEqual(found[:9], found[9:])
        self.assertEqual(found[6:9], [[3] + ALIKE, [6] + ALIKE, [5] + OTHER])

    def test_they_tell_of_the_same(self):
        for tables in itertools.product(([1, 0, 0, 0], ALIKE, OTHER, IMPLIES), repeat=3):
            calls = thing(3, *zip((3, 6, 5), tables))
            fewest, most, all_three, worlds = ask(*calls, ("fewest",), ("most",), ("together", 7), ("worlds",))[7:]
            self.assertEqual(all_three, [int(worlds[0] > 0)])
            self.assertEqual(fewest == [-6], worlds[0] > 0)
            self.assertEqual(most[1] == 3, worlds[0] > 0)
