"""How calls are read and answers are told, and what holds ahead of a begin."""

import unittest

from tests.helper import CALLS, LARGEST, RING, apart, ask, last, told
from viewtables.oneworld import answers


def any_call(name, number, row):
    count, has_row = CALLS[name][1:]
    return (name,) + (number,) * count + ((row,) if has_row else ())


class TheLists(unittest.TestCase):
    def test_number_by_number(self):
        calls = [0, 2, 1, 3, 3, 0, 4, 1, 2, 3, 4, 4, 0, 6, 0, 1, 7, 0, 1, 9, 2, 5]
        self.assertEqual(
            answers(calls),
            [1, 0, 1, 0, 1, 0, 5, 3, 1, 2, 3, 4, 3, 0, 1, 5, 5, 2, 2, 5, 3, 5, 1, -6, 1, -2],
        )

    def test_number_by_number_of_the_calls_about_worlds(self):
        calls = [
            0, 2, 1, 3, 1, 1, 3, 1, 2, 0, 4, 10, 11, 1, 12, 0, 0, 13, 14, 15, 16, 3, 17, 0, 18, 0, 19, 0, 1,
            3, 0, 4, 1, 0, 1, 0, 14, 12, 0, 1, 18, 1, 2, 0, 10,
        ]
        self.assertEqual(
            answers(calls),
            [
                1, 0, 1, 0, 1, 1, 1, 0, 3, 2, 1, 3, 3, 2, 0, 1, 1, 0, 5, 2, 0, 0, 0, 2, 1, -6, 2, 1, 2, 1, 1,
                3, 2, 1, 3, 1, 1, 2, 1, 1, 1, 0, 3, 2, 0, 1, 1, -33, 1, -33, 1, 1, 3, 2, 1, 3,
            ],
        )

    def test_each_of_the_calls_alone_behind_a_begin(self):
        for calls, expected in [
            ([0, 3], [1, 0]),
            ([1, 5], [1, 0]),
            ([2, 0], [1, -2]),
            ([3, 0, 0], [1, -2]),
            ([4, 0], [1, -2]),
            ([5, 7], [1, 0]),
            ([6, 0, 0], [1, -2]),
            ([7, 0, 0], [1, -2]),
            ([8, 0, 0], [1, -2]),
            ([9], [1, -6]),
            ([10], [9, 8, 0, 1, 2, 3, 4, 5, 6, 7]),
            ([11, 7], [1, 0]),
            ([12, 0, 0], [1, -2]),
            ([13], [1, 0]),
            ([14], [1, -6]),
            ([15], [2, 0, 0]),
            ([16, 0], [1, 1]),
            ([17, 0], [1, -2]),
            ([18, 2], [1, 2]),
            ([19, 0, 0], [1, -2]),
        ]:
            with self.subTest(calls=calls):
                self.assertEqual(answers([0, 3] + calls), [1, 0] + expected)

    def test_one_call(self):
        self.assertEqual(answers([0, 5]), [1, 0])
        self.assertEqual(answers([9]), [1, -11])

    def test_row_of_none_and_of_ten_numbers_is_read_to_its_end(self):
        for row in ([], [LARGEST] * 10):
            found = ask(("begin", 2), ("view", 1), ("table", 0, row), ("viewis", 0))
            self.assertEqual(found, [[0], [0], [-22], [1, 1, 1]])

    def test_sixty_calls(self):
        calls = [("begin", 5), ("view", 7)] + [("world", 31)] * 57 + [("viewis", 0)]
        found = ask(*calls)
        self.assertEqual(len(found), 60)
        self.assertEqual(found[-1], [7, 1, 1, 1, 1, 1, 1, 1, 58])

    def test_sixty_calls_of_the_longest_kind(self):
        calls = told([("table", LARGEST, [LARGEST] * 10)] * 60)
        self.assertEqual(len(calls), 780)
        self.assertEqual(answers(calls), [1, -11] * 60)

    def test_sixty_calls_with_the_longest_answers(self):
        found = ask(("begin", 5), *[("worlds",)] * 59)
        self.assertEqual(found, [[0]] + [[32, *range(32)]] * 59)

    def test_whole_numbers_are_never_true_or_false(self):
        numbers = answers(told([
            ("begin", 2), ("view", 1), ("view", 3), ("agree", 0, 1), ("world", 0),
            ("agree", 0, 1), ("share", 0, 1), ("margin", 0, 0), ("off",), ("viewis", 1),
            ("worlds",), ("fits", 0), ("shown", 0, 1), ("lonely",), ("fewest",), ("most",),
            ("together", 3), ("without", 1), ("sure", 1), ("ask", 1, 2), ("table", 0, [1, 0]),
            ("table", 1, [0, 1, 0, 1]), ("shown", 0, 0), ("lonely",), ("fewest",), ("most",),
            ("together", 3), ("without", 1), ("sure", 1), ("unview", 0), ("sure", 0),
        ]))
        self.assertEqual({type(number) for number in numbers}, {int})
        self.assertIs(type(numbers), list)


class NothingIsKept(unittest.TestCase):
    CALLS = [
        ("begin", 3), ("view", 3), ("view", 6), ("table", 0, [1, 2, 3, 4]), ("world", 5),
        ("unview", 1), ("viewis", 0), ("margin", 0, 1), ("share", 0, 3), ("view", 5),
        ("agree", 0, 1), ("off",), *RING, ("worlds",), ("fits", 3), ("shown", 0, 0), ("lonely",), ("fewest",),
        ("most",), ("together", 6), ("without", 1), ("sure", 2), ("world", 6), ("ask", 1, 3), ("sure", 0),
    ]

    def test_the_list_handed_in_stays_as_it_was(self):
        calls = told(self.CALLS)
        before = list(calls)
        answers(calls)
        self.assertEqual(calls, before)

    def test_the_list_handed_in_is_not_even_changed_for_a_while(self):
        class Fixed(list):
            def refuse(self, *given):
                raise AssertionError("the list was changed")

            append = extend = insert = pop = remove = clear = refuse
            reverse = sort = __setitem__ = __delitem__ = __iadd__ = __imul__ = refuse

        self.assertEqual(answers(Fixed(told(self.CALLS))), answers(told(self.CALLS)))

    def test_the_same_list_twice_is_answered_the_same(self):
        calls = told(self.CALLS)
        first = answers(calls)
        kept = list(first)
        second = answers(calls)
        self.assertEqual(second, kept)
        first.clear()
        self.assertEqual(answers(calls), kept)

    def test_each_list_has_an_object_of_its_own(self):
        answers(told([("begin", 4), ("view", 3)]))
        self.assertEqual(ask(("viewis", 0), ("begin", 4), ("viewis", 0)), [[-11], [0], [-2]])


class AheadOfABegin(unittest.TestCase):
    def test_every_call_whatever_is_handed_in(self):
        for name in CALLS:
            if name == "begin":
                continue
            for number in (0, 1, 2, 5, LARGEST):
                for row in ([], [1, 1], [0] * 8, [LARGEST] * 10):
                    with self.subTest(name=name, number=number, row=row):
                        call = any_call(name, number, row)
                        self.assertEqual(ask(call), [[-11]])
                        self.assertEqual(ask(("begin", 6), call), [[-22], [-11]])
                        self.assertEqual(ask(call, ("begin", 2)), [[-11], [0]])

    def test_all_of_them_in_one_list(self):
        calls = [any_call(name, 3, [1, 2]) for name in CALLS if name != "begin"]
        self.assertEqual(ask(*calls), [[-11]] * 19)

    def test_what_is_refused_changes_nothing(self):
        found = ask(("view", 3), ("world", 0), ("begin", 2), ("viewis", 0), ("view", 1), ("viewis", 0))
        self.assertEqual(found, [[-11], [-11], [0], [-2], [0], [1, 1, 1]])


class TheHelper(unittest.TestCase):
    def test_calls_and_answers(self):
        self.assertEqual(told([("table", 7, [5, 6]), ("off",), ("share", 1, 2)]), [3, 7, 2, 5, 6, 9, 6, 1, 2])
        self.assertEqual(apart([1, -2, 3, 0, 1, 2]), [[-2], [0, 1, 2]])
        self.assertEqual(last(("off",), ("begin", 2)), [0])
