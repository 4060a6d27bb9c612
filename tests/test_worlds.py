"""Promise 3: worlds, fits, shown, lonely, ask, sure."""

import unittest

from tests.helper import LARGEST, RING, ask, last

# Question 0 is answered 0, and questions 1 and 2 are answered differently: worlds 2 and 4.
TWO_WORLDS = [("begin", 3), ("view", 3), ("view", 6), ("table", 0, [1, 0, 2, 0]), ("table", 1, [0, 5, 5, 0])]
# The second view, of a question that the first has too, never saw a 0: worlds 1 and 3.
ONE_WITHIN = [("begin", 2), ("view", 3), ("view", 1), ("table", 1, [0, 4])]
SIX_VIEWS = [("begin", 5)] + [("view", s) for s in (1, 3, 7, 14, 28, 16)]


class Worlds(unittest.TestCase):
    def test_those_that_fit_all_views(self):
        self.assertEqual(last(*TWO_WORLDS, ("worlds",)), [2, 2, 4])
        self.assertEqual(last(*ONE_WITHIN, ("worlds",)), [2, 1, 3])

    def test_no_views_so_all_of_them(self):
        for n in (2, 3, 4, 5):
            self.assertEqual(last(("begin", n), ("worlds",)), [1 << n, *range(1 << n)])

    def test_new_views_saw_all(self):
        self.assertEqual(last(*SIX_VIEWS, ("worlds",)), [32, *range(32)])

    def test_none(self):
        self.assertEqual(last(*RING, ("worlds",)), [0])

    def test_the_last_one_alone(self):
        self.assertEqual(
            last(("begin", 5), ("view", 7), ("view", 28), ("table", 0, [0] * 7 + [1]), ("table", 1, [0] * 7 + [100]),
                 ("worlds",)),
            [1, 31],
        )

    def test_questions_of_a_view_count_rising(self):
        # Row 5 of the view of questions 1, 3 and 4: 1 and 4 are answered 1.
        self.assertEqual(
            last(("begin", 5), ("view", 26), ("table", 0, [0, 0, 0, 0, 0, 1, 0, 0]), ("worlds",)),
            [4, 18, 19, 22, 23],
        )

    def test_each_change_is_heeded(self):
        found = ask(
            *ONE_WITHIN, ("worlds",), ("table", 1, [4, 0]), ("worlds",), ("unview", 0), ("worlds",),
            ("begin", 6), ("worlds",), ("world", 1), ("worlds",), ("begin", 2), ("worlds",),
        )
        self.assertEqual(
            found[4:],
            [[2, 1, 3], [0], [2, 0, 2], [1], [2, 0, 2], [-22], [2, 0, 2], [1], [4, 0, 1, 2, 3], [0], [4, 0, 1, 2, 3]],
        )


class Fits(unittest.TestCase):
    def test_each_world(self):
        found = ask(*TWO_WORLDS, *[("fits", x) for x in range(8)])
        self.assertEqual(found[5:], [[1, 0], [0], [2, 0, 1], [1, 1], [2, 0, 1], [1, 1], [1, 0], [0]])

    def test_each_world_of_a_ring(self):
        found = ask(*RING, *[("fits", x) for x in range(8)])
        self.assertEqual(
            found[7:], [[2, 0, 1], [2, 1, 2], [0], [2, 0, 2], [2, 0, 2], [0], [2, 1, 2], [2, 0, 1]]
        )

    def test_six_views(self):
        self.assertEqual(last(*SIX_VIEWS, ("fits", 31)), [6, 0, 1, 2, 3, 4, 5])
        self.assertEqual(last(*SIX_VIEWS, ("table", 5, [1, 0]), ("fits", 31)), [5, 0, 1, 2, 3, 4])
        self.assertEqual(last(*SIX_VIEWS, ("table", 0, [1, 0]), ("fits", 31)), [5, 1, 2, 3, 4, 5])

    def test_no_views(self):
        self.assertEqual(ask(("begin", 2), ("fits", 0), ("fits", 3))[1:], [[0], [0]])

    def test_no_such_world(self):
        for n in (2, 3, 4, 5):
            found = ask(("begin", n), ("view", 1), ("fits", (1 << n) - 1), ("fits", 1 << n), ("fits", LARGEST))
            self.assertEqual(found[2:], [[1, 0], [-22], [-22]], n)
        self.assertEqual(last(("begin", 2), ("fits", 4)), [-22])

    def test_numbers_are_those_behind_an_unview(self):
        found = ask(*TWO_WORLDS, ("fits", 3), ("unview", 0), ("fits", 3), ("unview", 0), ("fits", 3))
        self.assertEqual(found[5:], [[1, 1], [1], [1, 0], [0], [0]])


class Shown(unittest.TestCase):
    def test_some_world_shows_it(self):
        found = ask(*TWO_WORLDS, ("shown", 0, 0), ("shown", 0, 2), ("shown", 1, 1), ("shown", 1, 2))
        self.assertEqual(found[5:], [[1]] * 4)

    def test_no_world_shows_it(self):
        found = ask(*ONE_WITHIN, *[("shown", 0, c) for c in range(4)], ("shown", 1, 1))
        self.assertEqual(found[4:], [[0], [1], [0], [1], [1]])

    def test_no_world_fits(self):
        found = ask(*RING, ("shown", 0, 0), ("shown", 0, 3), ("shown", 1, 0), ("shown", 2, 1), ("shown", 2, 2))
        self.assertEqual(found[7:], [[0]] * 5)

    def test_not_seen(self):
        found = ask(*RING, ("shown", 0, 1), ("shown", 0, 2), ("shown", 2, 0), ("shown", 2, 3))
        self.assertEqual(found[7:], [[-33]] * 4)
        self.assertEqual(last(*ONE_WITHIN, ("shown", 1, 0)), [-33])

    def test_no_such_view_or_row_comes_first(self):
        for s, rows in ((1, 2), (6, 4), (7, 8)):
            begun = [("begin", 3), ("view", s), ("table", 0, [1] + [0] * (rows - 1))]
            self.assertEqual(last(*begun, ("shown", 0, rows - 1)), [-33])
            for i, c in ((0, rows), (0, LARGEST), (1, 0), (1, 1), (LARGEST, 0), (LARGEST, LARGEST)):
                self.assertEqual(last(*begun, ("shown", i, c)), [-2], (s, i, c))
        self.assertEqual(last(("begin", 5), ("shown", 0, 0)), [-2])

    def test_a_world_that_comes_to_be_seen(self):
        found = ask(
            ("begin", 2), ("view", 3), ("view", 1), ("table", 0, [0, 1, 0, 0]), ("table", 1, [1, 0]), ("shown", 0, 1),
            ("shown", 0, 2), ("world", 2), ("shown", 0, 1), ("shown", 0, 2),
        )
        self.assertEqual(found[5:], [[0], [-33], [2], [0], [1]])


class Lonely(unittest.TestCase):
    def test_none_is(self):
        self.assertEqual(last(*TWO_WORLDS, ("lonely",)), [0])
        self.assertEqual(last(*SIX_VIEWS, ("lonely",)), [0])
        self.assertEqual(last(("begin", 2), ("lonely",)), [0])

    def test_rows_of_the_first_view(self):
        self.assertEqual(last(*ONE_WITHIN, ("lonely",)), [2, 0, 0, 0, 2])

    def test_rows_of_the_last_view(self):
        found = ask(("begin", 2), ("view", 1), ("view", 3), ("table", 0, [0, 4]), ("lonely",))
        self.assertEqual(found[-1], [2, 1, 0, 1, 2])

    def test_by_views_then_by_rows(self):
        self.assertEqual(last(*RING, ("lonely",)), [6, 0, 0, 0, 3, 1, 0, 1, 3, 2, 1, 2, 2])

    def test_rows_not_seen_are_not_lonely(self):
        self.assertEqual(last(*ONE_WITHIN, ("table", 0, [0, 1, 9, 1]), ("lonely",)), [1, 0, 2])

    def test_all_rows_of_six_views(self):
        # Question 4 alone is told as 0 and as 1, so that no world fits.
        found = ask(*SIX_VIEWS, ("table", 5, [1, 0]), ("table", 4, [0] * 7 + [1]), ("lonely",))
        rows = [(0, 2), (1, 4), (2, 8), (3, 8)]
        expected = [number for i, count in rows for c in range(count) for number in (i, c)]
        self.assertEqual(found[-1], [24] + expected + [4, 7, 5, 0])

    def test_behind_an_unview(self):
        found = ask(*RING, ("unview", 1), ("lonely",), ("unview", 0), ("lonely",))
        self.assertEqual(found[7:], [[2], [0], [1], [0]])
        found = ask(
            ("begin", 3), ("view", 4), ("view", 3), ("view", 1), ("table", 2, [1, 0]), ("lonely",), ("unview", 0),
            ("lonely",),
        )
        self.assertEqual(found[5:], [[2, 1, 1, 1, 3], [2], [2, 0, 1, 0, 3]])


class AskRow(unittest.TestCase):
    def test_which_worlds_show_it(self):
        found = ask(*TWO_WORLDS, *[("ask", i, c) for i in (0, 1) for c in range(4)])
        self.assertEqual(found[5:], [[1, 4], [0], [1, 2], [0], [0], [1, 2], [1, 4], [0]])

    def test_rising(self):
        found = ask(("begin", 4), ("view", 6), ("view", 8), ("ask", 0, 1), ("ask", 0, 2), ("ask", 1, 1))
        self.assertEqual(
            found[3:], [[4, 2, 3, 10, 11], [4, 4, 5, 12, 13], [8, 8, 9, 10, 11, 12, 13, 14, 15]]
        )

    def test_only_those_that_fit_all_views(self):
        found = ask(*ONE_WITHIN, *[("ask", 0, c) for c in range(4)], ("ask", 1, 0), ("ask", 1, 1))
        self.assertEqual(found[4:], [[0], [1, 1], [0], [1, 3], [0], [2, 1, 3]])

    def test_no_world_fits(self):
        found = ask(*RING, *[("ask", i, c) for i in range(3) for c in range(4)])
        self.assertEqual(found[7:], [[0]] * 12)

    def test_a_row_that_only_one_world_shows(self):
        found = ask(("begin", 3), ("view", 7), *[("ask", 0, c) for c in range(8)])
        self.assertEqual(found[2:], [[1, c] for c in range(8)])

    def test_no_such_view_or_row(self):
        for s, rows in ((2, 2), (5, 4), (7, 8)):
            begun = [("begin", 3), ("view", s)]
            self.assertNotEqual(last(*begun, ("ask", 0, rows - 1)), [-2])
            for i, c in ((0, rows), (0, LARGEST), (1, 0), (LARGEST, 0), (LARGEST, LARGEST)):
                self.assertEqual(last(*begun, ("ask", i, c)), [-2], (s, i, c))
        self.assertEqual(last(("begin", 5), ("ask", 0, 0)), [-2])


class Sure(unittest.TestCase):
    def test_0_1_and_2(self):
        self.assertEqual(ask(*TWO_WORLDS, *[("sure", q) for q in range(3)])[5:], [[0], [2], [2]])
        self.assertEqual(ask(*ONE_WITHIN, *[("sure", q) for q in range(2)])[4:], [[1], [2]])

    def test_one_world_alone(self):
        found = ask(
            ("begin", 5), ("view", 7), ("view", 24), ("table", 0, [0, 0, 0, 0, 0, 0, 1, 0]), ("table", 1, [0, 1, 0, 0]),
            *[("sure", q) for q in range(5)], ("worlds",),
        )
        self.assertEqual(found[5:], [[0], [1], [1], [1], [0], [1, 14]])

    def test_no_views(self):
        for n in (2, 3, 4, 5):
            self.assertEqual(ask(("begin", n), *[("sure", q) for q in range(n)])[1:], [[2]] * n)

    def test_no_world_fits(self):
        self.assertEqual(ask(*RING, *[("sure", q) for q in range(3)])[7:], [[-33]] * 3)

    def test_no_such_question_comes_first(self):
        for q in (3, 4, 5, 31, LARGEST):
            self.assertEqual(last(*RING, ("sure", q)), [-2], q)
        for n in (2, 3, 4, 5):
            self.assertEqual(last(("begin", n), ("sure", n)), [-2], n)

    def test_questions_are_those_of_the_last_begin(self):
        found = ask(("begin", 5), ("sure", 4), ("begin", 2), ("sure", 4), ("begin", 9), ("sure", 1), ("sure", 2))
        self.assertEqual(found, [[0], [2], [0], [-2], [-22], [2], [-2]])


class Corners(unittest.TestCase):
    def test_views_of_one_question(self):
        views = [("view", 1), ("view", 2), ("view", 4), ("view", 8), ("view", 16)]
        found = ask(
            ("begin", 5), *views, ("table", 0, [0, 1]), ("table", 2, [1, 0]), ("table", 4, [0, 100]),
            ("worlds",), ("lonely",), ("fits", 16), ("shown", 1, 1), ("ask", 3, 1), *[("sure", q) for q in range(5)],
        )
        self.assertEqual(
            found[9:],
            [[4, 17, 19, 25, 27], [0], [4, 1, 2, 3, 4], [1], [2, 25, 27], [1], [2], [0], [2], [1]],
        )

    def test_a_table_with_one_row_alone(self):
        found = ask(
            ("begin", 3), ("view", 7), ("view", 3), ("table", 0, [0, 0, 0, 0, 0, 0, 1, 0]), ("worlds",), ("lonely",),
            ("ask", 1, 2), ("table", 1, [1, 1, 0, 1]), ("worlds",), ("lonely",), ("shown", 0, 6), ("sure", 0),
        )
        self.assertEqual(
            found[4:],
            [[1, 6], [3, 1, 0, 1, 1, 1, 3], [1, 6], [0], [0], [4, 0, 6, 1, 0, 1, 1, 1, 3], [0], [-33]],
        )

    def test_a_hundred_worlds_seen(self):
        # 60 calls are the most in one list, so tables begin where 50 were seen.
        found = ask(
            ("begin", 2), ("view", 3), ("view", 2), ("table", 0, [50, 0, 0, 0]), ("table", 1, [50, 0]), ("worlds",),
            *[("world", 0)] * 51, ("worlds",), ("viewis", 0), ("lonely",),
        )
        self.assertEqual(len(found), 60)
        self.assertEqual(found[5], [1, 0])
        self.assertEqual(found[-3:], [[1, 0], [3, 100, 0, 0, 0], [0]])

    def test_what_is_seen_by_all_fits_all(self):
        for x in range(8):
            found = ask(*RING, ("world", x), ("worlds",), ("fits", x), ("ask", 0, x & 3))
            self.assertIn(x, found[8][1:])
            self.assertEqual(found[9], [3, 0, 1, 2])
            self.assertIn(x, found[10][1:])

    def test_asking_changes_nothing(self):
        asked = [
            ("worlds",), ("fits", 1), ("shown", 0, 0), ("shown", 0, 9), ("lonely",), ("ask", 0, 0), ("sure", 0),
            ("sure", 7), ("fits", 8), ("viewis", 0), ("viewis", 1), ("viewis", 2),
        ]
        found = ask(*RING, *asked, *asked)[7:]
        self.assertEqual(found[:12], found[12:])
        self.assertEqual(found[9:12], [[3, 1, 0, 0, 1], [6, 1, 0, 0, 1], [5, 0, 1, 1, 0]])
