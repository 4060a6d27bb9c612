"""Promise 1: begin, view, unview, table, viewis, world."""

import unittest

from tests.helper import LARGEST, ask, last

SIX_VIEWS = [("view", s) for s in (1, 2, 4, 8, 16, 3)]


class Begin(unittest.TestCase):
    def test_two_to_five_questions(self):
        for n in range(10):
            self.assertEqual(last(("begin", n)), [0] if n in (2, 3, 4, 5) else [-22], n)
        self.assertEqual(last(("begin", LARGEST)), [-22])

    def test_there_are_just_so_many_questions(self):
        for n in (2, 3, 4, 5):
            top = 1 << (n - 1)
            found = ask(("begin", n), ("view", top), ("view", 2 * top), ("world", 2 * top - 1), ("world", 2 * top))
            self.assertEqual(found, [[0], [0], [-22], [1], [-22]], n)

    def test_no_views_at_first(self):
        self.assertEqual(ask(("begin", 5), ("viewis", 0), ("world", 0)), [[0], [-2], [0]])

    def test_again_makes_all_anew(self):
        found = ask(
            ("begin", 5), ("view", 16), ("table", 0, [3, 4]), ("begin", 2), ("viewis", 0),
            ("view", 16), ("view", 3), ("viewis", 0), ("world", 4),
        )
        self.assertEqual(found, [[0], [0], [0], [0], [-2], [-22], [0], [3, 1, 1, 1, 1], [-22]])

    def test_again_with_as_many_questions_makes_all_anew(self):
        self.assertEqual(last(("begin", 3), ("view", 1), ("begin", 3), ("viewis", 0)), [-2])

    def test_refused_again_changes_nothing(self):
        for n in (0, 1, 6, LARGEST):
            found = ask(("begin", 3), ("view", 6), ("table", 0, [0, 9, 8, 7]), ("begin", n), ("viewis", 0), ("view", 4))
            self.assertEqual(found[3:], [[-22], [6, 0, 9, 8, 7], [1]], n)


class NewView(unittest.TestCase):
    def test_numbered_from_0(self):
        found = ask(("begin", 5), *SIX_VIEWS)
        self.assertEqual(found[1:], [[0], [1], [2], [3], [4], [5]])

    def test_every_set_of_questions(self):
        for n in (2, 3, 4, 5):
            for s in range(70):
                good = s < 2 ** n and bin(s).count("1") in (1, 2, 3)
                self.assertEqual(last(("begin", n), ("view", s)), [0] if good else [-22], (n, s))

    def test_far_too_large(self):
        for s in (LARGEST, 1 << 31, (1 << 16) + 1):
            self.assertEqual(last(("begin", 5), ("view", s)), [-22], s)

    def test_each_row_was_seen_once(self):
        for s, rows in ((1, 2), (16, 2), (10, 4), (7, 8), (28, 8)):
            self.assertEqual(last(("begin", 5), ("view", s), ("viewis", 0)), [s] + [1] * rows)

    def test_no_two_of_the_same(self):
        found = ask(("begin", 3), ("view", 3), ("view", 5), ("view", 3), ("view", 5), ("view", 1))
        self.assertEqual(found[1:], [[0], [1], [-17], [-17], [2]])

    def test_at_most_six(self):
        found = ask(("begin", 5), *SIX_VIEWS, ("view", 5), ("world", 0), ("unview", 0), ("view", 5), ("view", 1))
        self.assertEqual(found[7:], [[-28], [6], [5], [5], [-28]])

    def test_which_refusal_comes_first(self):
        full = [("begin", 5)] + SIX_VIEWS
        self.assertEqual(last(*full, ("view", 0)), [-22])
        self.assertEqual(last(*full, ("view", 15)), [-22])
        self.assertEqual(last(*full, ("view", 32)), [-22])
        for s in (1, 2, 4, 8, 16, 3):
            self.assertEqual(last(*full, ("view", s)), [-17])
        self.assertEqual(last(*full, ("view", 7)), [-28])

    def test_refused_changes_nothing(self):
        found = ask(
            ("begin", 3), ("view", 3), ("table", 0, [2, 0, 0, 5]), ("view", 3), ("view", 0), ("view", 8),
            ("viewis", 0), ("viewis", 1),
        )
        self.assertEqual(found[3:], [[-17], [-22], [-22], [3, 2, 0, 0, 5], [-2]])


class Unview(unittest.TestCase):
    def test_how_many_are_left(self):
        found = ask(("begin", 5), *SIX_VIEWS, *[("unview", 0)] * 7)
        self.assertEqual(found[7:], [[5], [4], [3], [2], [1], [0], [-2]])

    def test_those_behind_are_numbered_one_less(self):
        begun = [("begin", 4), ("view", 1), ("view", 2), ("view", 4), ("view", 8)]
        for i, left in ((0, [2, 4, 8]), (1, [1, 4, 8]), (2, [1, 2, 8]), (3, [1, 2, 4])):
            found = ask(*begun, ("unview", i), *[("viewis", k) for k in range(4)])
            self.assertEqual(found[5:], [[3]] + [[s, 1, 1] for s in left] + [[-2]], i)

    def test_tables_go_along(self):
        found = ask(
            ("begin", 3), ("view", 1), ("view", 2), ("view", 4), ("table", 0, [1, 2]), ("table", 1, [3, 4]),
            ("table", 2, [5, 6]), ("unview", 1), ("viewis", 0), ("viewis", 1), ("table", 1, [7, 8]), ("viewis", 1),
        )
        self.assertEqual(found[7:], [[2], [1, 1, 2], [4, 5, 6], [0], [4, 7, 8]])

    def test_it_may_come_again_behind_the_others_and_new(self):
        found = ask(
            ("begin", 3), ("view", 1), ("view", 2), ("table", 0, [9, 9]), ("unview", 0), ("view", 1),
            ("viewis", 0), ("viewis", 1),
        )
        self.assertEqual(found[4:], [[1], [1], [2, 1, 1], [1, 1, 1]])

    def test_no_such_view(self):
        for i in (1, 2, 6, LARGEST):
            found = ask(("begin", 2), ("view", 1), ("unview", i), ("viewis", 0))
            self.assertEqual(found[2:], [[-2], [1, 1, 1]], i)
        self.assertEqual(last(("begin", 2), ("unview", 0)), [-2])


class Table(unittest.TestCase):
    def test_it_is_the_table(self):
        for s, row in (
            (2, [0, 100]), (2, [100, 0]), (3, [5, 0, 7, 100]), (3, [100] * 4), (7, [0, 1, 2, 3, 4, 5, 6, 7]),
            (7, [0] * 7 + [1]), (7, [100] * 8),
        ):
            found = ask(("begin", 3), ("view", s), ("table", 0, row), ("viewis", 0))
            self.assertEqual(found[2:], [[0], [s] + row])

    def test_only_that_view(self):
        found = ask(
            ("begin", 2), ("view", 1), ("view", 2), ("view", 3), ("table", 1, [4, 5]),
            ("viewis", 0), ("viewis", 1), ("viewis", 2),
        )
        self.assertEqual(found[4:], [[0], [1, 1, 1], [2, 4, 5], [3, 1, 1, 1, 1]])

    def test_a_number_for_each_row(self):
        for s, rows in ((1, 2), (6, 4), (7, 8)):
            for length in range(11):
                answer = last(("begin", 3), ("view", s), ("table", 0, [1] * length))
                self.assertEqual(answer, [0] if length == rows else [-22], (s, length))

    def test_none_above_100_and_not_all_0(self):
        for row in ([101, 0], [0, 101], [LARGEST, 1], [100, LARGEST], [0, 0]):
            found = ask(("begin", 2), ("view", 1), ("table", 0, [3, 4]), ("table", 0, row), ("viewis", 0))
            self.assertEqual(found[3:], [[-22], [1, 3, 4]], row)
        self.assertEqual(last(("begin", 3), ("view", 7), ("table", 0, [0] * 8)), [-22])
        self.assertEqual(last(("begin", 3), ("view", 7), ("table", 0, [0] * 7 + [101])), [-22])

    def test_no_such_view_comes_first(self):
        for i in (1, 6, LARGEST):
            for row in ([1, 1], [], [0, 0], [101, 1], [LARGEST] * 10):
                self.assertEqual(last(("begin", 2), ("view", 1), ("table", i, row)), [-2], (i, row))


class Viewis(unittest.TestCase):
    def test_its_set_then_its_table(self):
        found = ask(("begin", 5), ("view", 25), ("view", 16), ("world", 9), ("viewis", 0), ("viewis", 1))
        self.assertEqual(found[4:], [[25, 1, 1, 1, 2, 1, 1, 1, 1], [16, 2, 1]])

    def test_no_such_view(self):
        for i in (1, 2, LARGEST):
            self.assertEqual(last(("begin", 2), ("view", 3), ("viewis", i)), [-2], i)
        self.assertEqual(last(("begin", 2), ("viewis", 0)), [-2])

    def test_asking_changes_nothing(self):
        found = ask(("begin", 2), ("view", 3), ("table", 0, [1, 2, 3, 4]), *[("viewis", 0)] * 3)
        self.assertEqual(found[3:], [[3, 1, 2, 3, 4]] * 3)


class World(unittest.TestCase):
    def test_how_many_views(self):
        found = ask(("begin", 3), ("world", 0), ("view", 1), ("world", 0), ("view", 2), ("world", 0))
        self.assertEqual(found[1::2], [[0], [1], [2]])

    def test_the_row_that_it_shows_in_each_view(self):
        # World 22 of 5 questions answers questions 1, 2 and 4 with 1.
        for s, row in ((1, 0), (2, 1), (16, 1), (5, 2), (3, 2), (18, 3), (9, 0), (28, 5), (7, 6), (11, 2)):
            found = last(("begin", 5), ("view", s), ("world", 22), ("viewis", 0))
            expected = [1] * (len(found) - 1)
            expected[row] = 2
            self.assertEqual(found, [s] + expected, s)

    def test_all_views_at_once(self):
        found = ask(
            ("begin", 3), ("view", 1), ("view", 6), ("world", 5), ("world", 5), ("world", 2),
            ("viewis", 0), ("viewis", 1),
        )
        self.assertEqual(found[3:], [[2], [2], [2], [1, 2, 3], [6, 1, 2, 3, 1]])

    def test_a_row_that_was_not_seen_is_seen(self):
        self.assertEqual(
            last(("begin", 2), ("view", 3), ("table", 0, [0, 0, 0, 7]), ("world", 1), ("viewis", 0)),
            [3, 0, 1, 0, 7],
        )

    def test_never_more_than_100(self):
        found = ask(
            ("begin", 2), ("view", 1), ("view", 2), ("table", 0, [99, 100]),
            ("world", 0), ("viewis", 0), ("world", 0), ("viewis", 0), ("world", 1), ("viewis", 0), ("viewis", 1),
        )
        self.assertEqual(
            found[4:], [[2], [1, 100, 100], [2], [1, 100, 100], [2], [1, 100, 100], [2, 4, 1]]
        )

    def test_a_hundred_worlds_seen(self):
        # 60 calls are the most in one list, so a table starts the row where 50 were seen.
        found = ask(
            ("begin", 2), ("view", 3), ("table", 0, [50, 1, 1, 1]), *[("world", 0)] * 55, ("viewis", 0), ("share", 0, 0)
        )
        self.assertEqual(len(found), 60)
        self.assertEqual(found[-2:], [[3, 100, 1, 1, 1], [0, 100, 103]])

    def test_no_such_world(self):
        for n in (2, 3, 4, 5):
            for x in (1 << n, LARGEST):
                found = ask(("begin", n), ("view", 1), ("world", x), ("viewis", 0))
                self.assertEqual(found[2:], [[-22], [1, 1, 1]], (n, x))
        self.assertEqual(last(("begin", 2), ("world", 4)), [-22])

    def test_views_that_come_later_did_not_see_it(self):
        self.assertEqual(last(("begin", 2), ("world", 3), ("view", 3), ("viewis", 0)), [3, 1, 1, 1, 1])
