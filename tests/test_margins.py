"""Promise 2: share, margin, agree, off."""

import unittest

from tests.helper import LARGEST, RING, ask, last

EIGHT = [("begin", 5), ("view", 21), ("table", 0, [1, 2, 3, 4, 5, 6, 7, 8])]


class Share(unittest.TestCase):
    def test_each_row(self):
        found = ask(*EIGHT, *[("share", 0, c) for c in range(8)])
        self.assertEqual(
            found[3:],
            [[0, 1, 36], [0, 1, 18], [0, 1, 12], [0, 1, 9], [0, 5, 36], [0, 1, 6], [0, 7, 36], [0, 2, 9]],
        )

    def test_nothing_in_common(self):
        for row, expected in (
            ([2, 4], [0, 1, 3]), ([100, 100], [0, 1, 2]), ([60, 40], [0, 3, 5]), ([7, 5], [0, 7, 12]),
            ([1, 100], [0, 1, 101]), ([99, 100], [0, 99, 199]),
        ):
            self.assertEqual(last(("begin", 2), ("view", 2), ("table", 0, row), ("share", 0, 0)), expected)

    def test_0_is_0_1_and_all_is_1_1(self):
        found = ask(("begin", 2), ("view", 3), ("table", 0, [0, 0, 100, 0]), *[("share", 0, c) for c in range(4)])
        self.assertEqual(found[3:], [[0, 0, 1], [0, 0, 1], [0, 1, 1], [0, 0, 1]])

    def test_a_new_view(self):
        self.assertEqual(last(("begin", 3), ("view", 7), ("share", 0, 7)), [0, 1, 8])

    def test_of_the_view_that_is_named(self):
        found = ask(
            ("begin", 2), ("view", 1), ("view", 2), ("table", 0, [1, 2]), ("table", 1, [1, 3]),
            ("share", 0, 0), ("share", 1, 0), ("unview", 0), ("share", 0, 0),
        )
        self.assertEqual(found[5:], [[0, 1, 3], [0, 1, 4], [1], [0, 1, 4]])

    def test_no_such_view_or_row(self):
        for s, rows in ((1, 2), (5, 4), (7, 8)):
            begun = [("begin", 3), ("view", s)]
            self.assertEqual(last(*begun, ("share", 0, rows - 1)), [0, 1, rows])
            for i, c in ((0, rows), (0, LARGEST), (1, 0), (LARGEST, 0), (LARGEST, LARGEST)):
                self.assertEqual(last(*begun, ("share", i, c)), [-2], (s, i, c))
        self.assertEqual(last(("begin", 2), ("share", 0, 0)), [-2])


class Margin(unittest.TestCase):
    def test_each_set_of_its_questions(self):
        # The view's questions 0, 2 and 4 count 1, 2 and 4 in its rows.
        for s, expected in (
            (0, [1, 1, 1]),
            (1, [2, 4, 9, 5, 9]),
            (4, [2, 7, 18, 11, 18]),
            (16, [2, 5, 18, 13, 18]),
            (5, [4, 1, 6, 2, 9, 5, 18, 1, 3]),
            (17, [4, 1, 9, 1, 6, 1, 3, 7, 18]),
            (20, [4, 1, 12, 7, 36, 11, 36, 5, 12]),
            (21, [8, 1, 36, 1, 18, 1, 12, 1, 9, 5, 36, 1, 6, 7, 36, 2, 9]),
        ):
            self.assertEqual(last(*EIGHT, ("margin", 0, s)), expected, s)

    def test_0_is_0_1_and_all_is_1_1(self):
        begun = [("begin", 2), ("view", 3), ("table", 0, [0, 6, 0, 2])]
        found = ask(*begun, *[("margin", 0, s) for s in range(4)])
        self.assertEqual(
            found[3:],
            [[1, 1, 1], [2, 0, 1, 1, 1], [2, 3, 4, 1, 4], [4, 0, 1, 3, 4, 0, 1, 1, 4]],
        )

    def test_view_of_one_question(self):
        begun = [("begin", 5), ("view", 16), ("table", 0, [4, 6])]
        self.assertEqual(last(*begun, ("margin", 0, 16)), [2, 2, 5, 3, 5])
        self.assertEqual(last(*begun, ("margin", 0, 0)), [1, 1, 1])
        self.assertEqual(last(*begun, ("margin", 0, 1)), [-22])

    def test_not_a_set_of_its_questions(self):
        for s in (2, 3, 8, 23, 29, 31, 32, 53, 1 << 31, LARGEST):
            self.assertEqual(last(*EIGHT, ("margin", 0, s)), [-22], s)

    def test_no_such_view_comes_first(self):
        for i in (1, 2, LARGEST):
            for s in (0, 1, 2, 32, LARGEST):
                self.assertEqual(last(*EIGHT, ("margin", i, s)), [-2], (i, s))
        self.assertEqual(last(("begin", 2), ("margin", 0, 0)), [-2])

    def test_asking_changes_nothing(self):
        found = ask(*EIGHT, ("margin", 0, 1), ("share", 0, 0), ("margin", 0, 2), ("viewis", 0))
        self.assertEqual(found[-1], [21, 1, 2, 3, 4, 5, 6, 7, 8])


class Agree(unittest.TestCase):
    def pair(self, s, first, t, second):
        found = ask(
            ("begin", 5), ("view", s), ("view", t), ("table", 0, first), ("table", 1, second),
            ("agree", 0, 1), ("agree", 1, 0), ("off",),
        )
        self.assertEqual(found[3:5], [[0], [0]])
        self.assertEqual(found[5], found[6])
        self.assertEqual(found[7], [-6] if found[5] == [1] else [0, 1])
        return found[5]

    def test_one_question_in_common(self):
        # Question 1 is answered 0 three times of ten in the first view.
        for second, expected in (
            ([3, 7, 0, 0], [1]), ([3, 0, 0, 7], [1]), ([0, 0, 3, 7], [1]), ([1, 5, 2, 2], [1]),
            ([7, 3, 0, 0], [0]), ([3, 0, 7, 0], [0]), ([2, 5, 2, 1], [0]),
        ):
            self.assertEqual(self.pair(3, [1, 2, 3, 4], 6, second), expected, second)

    def test_as_likely_though_seen_more_often(self):
        self.assertEqual(self.pair(3, [1, 2, 3, 4], 6, [30, 0, 0, 70]), [1])
        self.assertEqual(self.pair(1, [33, 66], 3, [1, 1, 0, 1]), [1])
        self.assertEqual(self.pair(1, [33, 67], 3, [1, 1, 0, 1]), [0])

    def test_two_questions_in_common(self):
        self.assertEqual(self.pair(7, [1, 0, 0, 0, 0, 0, 0, 1], 14, [1, 0, 0, 1, 0, 0, 0, 0]), [1])
        # Each of the two questions alone is as likely in both, but not the two together.
        self.assertEqual(self.pair(7, [1, 0, 0, 0, 0, 0, 0, 1], 14, [0, 1, 1, 0, 0, 0, 0, 0]), [0])

    def test_none_in_common(self):
        self.assertEqual(self.pair(3, [1, 2, 3, 4], 12, [100, 0, 0, 1]), [1])
        self.assertEqual(self.pair(1, [1, 0], 2, [0, 1]), [1])

    def test_a_view_whose_questions_another_one_has(self):
        self.assertEqual(self.pair(7, [1, 2, 3, 4, 5, 6, 7, 8], 2, [14, 22]), [1])
        self.assertEqual(self.pair(7, [1, 2, 3, 4, 5, 6, 7, 8], 2, [22, 14]), [0])
        self.assertEqual(self.pair(7, [1, 2, 3, 4, 5, 6, 7, 8], 5, [4, 6, 12, 14]), [1])
        self.assertEqual(self.pair(7, [1, 2, 3, 4, 5, 6, 7, 8], 5, [4, 6, 12, 15]), [0])

    def test_with_itself(self):
        self.assertEqual(last(*EIGHT, ("agree", 0, 0)), [1])

    def test_no_such_view(self):
        for i, j in ((0, 1), (1, 0), (1, 1), (0, LARGEST), (LARGEST, 0), (LARGEST, LARGEST)):
            self.assertEqual(last(*EIGHT, ("agree", i, j)), [-2], (i, j))
        self.assertEqual(last(("begin", 2), ("agree", 0, 0)), [-2])


class Off(unittest.TestCase):
    def test_all_agree(self):
        self.assertEqual(last(("begin", 2), ("off",)), [-6])
        self.assertEqual(last(("begin", 2), ("view", 1), ("table", 0, [0, 1]), ("off",)), [-6])
        views = [("view", s) for s in (1, 3, 7, 14, 28, 25)]
        self.assertEqual(last(("begin", 5), *views, ("off",)), [-6])
        self.assertEqual(last(("begin", 5), *views, ("world", 19), ("off",)), [0, 1])

    def first_off(self, *tables):
        """Views of question 0 with 1, 2 or 3 questions, each with its own likelihood of it."""
        sets = (1, 3, 5, 9, 17, 7)
        calls = [("begin", 5)] + [("view", s) for s in sets[:len(tables)]]
        for i, (zero, one) in enumerate(tables):
            rows = 1 << bin(sets[i]).count("1")
            calls.append(("table", i, [zero, one] + [0] * (rows - 2)))
        return last(*calls, ("off",))

    def test_by_the_first_then_by_the_second(self):
        self.assertEqual(self.first_off((1, 1), (1, 1), (1, 2)), [0, 2])
        self.assertEqual(self.first_off((1, 1), (1, 2), (1, 1)), [0, 1])
        self.assertEqual(self.first_off((1, 2), (1, 1), (1, 1)), [0, 1])
        self.assertEqual(self.first_off((1, 1), (2, 2), (3, 3), (4, 4), (5, 5), (6, 7)), [0, 5])
        self.assertEqual(self.first_off((1, 1), (2, 2), (3, 3), (4, 5), (5, 5), (6, 7)), [0, 3])

    def test_the_first_of_the_two_need_not_be_view_0(self):
        calls = [("begin", 5), ("view", 16), ("view", 3), ("view", 2), ("view", 1), ("view", 8), ("view", 24)]
        self.assertEqual(last(*calls, ("table", 2, [1, 0]), ("off",)), [1, 2])
        self.assertEqual(last(*calls, ("table", 3, [1, 0]), ("off",)), [1, 3])
        self.assertEqual(last(*calls, ("table", 4, [1, 0]), ("off",)), [4, 5])
        # 0 and 5 don't agree, nor do 1 and 2: the lesser first one goes ahead.
        self.assertEqual(last(*calls, ("table", 0, [1, 0]), ("table", 2, [1, 0]), ("off",)), [0, 5])

    def test_numbers_are_those_behind_an_unview(self):
        calls = [("begin", 3), ("view", 4), ("view", 1), ("view", 3), ("table", 1, [1, 0])]
        found = ask(*calls, ("off",), ("unview", 0), ("off",), ("unview", 0), ("off",))
        self.assertEqual(found[5:], [[1, 2], [2], [0, 1], [1], [-6]])


class Corners(unittest.TestCase):
    def test_a_ring_that_agrees_in_twos(self):
        pairs = [("agree", i, j) for i in range(3) for j in range(3)]
        self.assertEqual(ask(*RING, *pairs, ("off",))[7:], [[1]] * 9 + [[-6]])

    def test_a_ring_that_does_not(self):
        found = ask(*RING, ("table", 2, [0, 1, 2, 0]), ("agree", 0, 1), ("agree", 1, 2), ("agree", 0, 2), ("off",))
        self.assertEqual(found[7:], [[0], [1], [0], [0], [0, 2]])

    def test_no_views(self):
        found = ask(
            ("begin", 5), ("off",), ("world", 31), ("viewis", 0), ("share", 0, 0), ("margin", 0, 0),
            ("agree", 0, 0), ("table", 0, [1, 1]), ("unview", 0),
        )
        self.assertEqual(found, [[0], [-6], [0]] + [[-2]] * 6)

    def test_views_of_one_question(self):
        views = [("view", 1), ("view", 2), ("view", 4), ("view", 8), ("view", 16)]
        found = ask(("begin", 5), *views, *[("world", 21)] * 3, *[("share", i, 1) for i in range(5)], ("off",))
        self.assertEqual(found[9:], [[0, 4, 5], [0, 1, 5], [0, 4, 5], [0, 1, 5], [0, 4, 5], [-6]])

    def test_a_table_with_one_row_alone(self):
        found = ask(
            ("begin", 3), ("view", 7), ("view", 3), ("table", 0, [0, 0, 0, 0, 0, 0, 1, 0]),
            ("table", 1, [0, 0, 100, 0]), ("share", 0, 6), ("share", 0, 5), ("margin", 0, 3), ("agree", 0, 1),
            ("table", 1, [0, 100, 0, 0]), ("agree", 0, 1),
        )
        self.assertEqual(
            found[5:], [[0, 1, 1], [0, 0, 1], [4, 0, 1, 0, 1, 1, 1, 0, 1], [1], [0], [0]]
        )

    def test_worlds_seen_by_all_from_one_world_on(self):
        # Where each table began with one world alone, all that was seen came of one whole.
        found = ask(
            ("begin", 3), ("view", 3), ("view", 6), ("view", 7), ("table", 0, [1, 0, 0, 0]),
            ("table", 1, [1, 0, 0, 0]), ("table", 2, [1] + [0] * 7), ("world", 5), ("off",), ("world", 3), ("off",),
            ("world", 7), ("off",), ("viewis", 2),
        )
        self.assertEqual(found[7:], [[3], [-6], [3], [-6], [3], [-6], [7, 1, 0, 0, 1, 0, 1, 0, 1]])
