"""Lists of calls, and what is said over the whole of what is handed in and kept."""

import unittest

from tests.lines import add, convert, coded, date, dateof, day, fits, form, joined, number, outputs, read
from toldforms.desk import CALLS, answers


class ListsTest(unittest.TestCase):
    def calls(self):
        return joined([form(0), read(1, "1,234"), number(5, 7, 0), date(168, 2021, 3, 5), convert(1, 0, "1,234"),
                       fits("007"), day(1, 1, 1), dateof(3652059), form(273), read(0, ""), add("7", "7"), outputs("8"),
                       dateof(0), number(0, 1, 10)])

    def test_each_answer_behind_its_count(self):
        self.assertEqual(answers(self.calls()), joined([
            [6, 0, 0, 1, 0, 0, 46], [4, 0, 0, 1234, 0], [3, 0] + coded("07"), [11, 0] + coded("05.03.2021"),
            [5, 0] + coded("1234"), [5, 0, 8, 9, 10, 11], [3, 0, 1, 0], [4, 0, 9999, 12, 31], [1, -2], [1, 1], [1, 0],
            [4, 1, 16, 1, 56], [1, -7], [1, -3]]))

    def test_how_many_numbers_and_rows_each_call_has(self):
        self.assertEqual([call[:2] for call in CALLS], [(1, 0), (1, 1), (3, 0), (4, 0), (2, 1), (0, 1), (3, 0), (1, 0),
                                                        (2, 1), (0, 2), (1, 0), (0, 0), (0, 0), (0, 1), (0, 1)])

    def test_one_call(self):
        self.assertEqual(answers([0, -1]), [1, -2])
        self.assertEqual(answers([5, 0]), [1, 0])

    def test_empty_rows_between_others(self):
        self.assertEqual(answers([1, 0, 0, 5, 0, 4, 0, 0, 1, 55]), [1, 1, 1, 0, 2, 0, 55])

    def test_ninety_calls(self):
        self.assertEqual(answers(dateof(1) * 90), [4, 0, 1, 1, 1] * 90)

    def test_a_list_as_long_as_may_be(self):
        calls = fits([48] * 10000) + read(0, [49] * 5990) + form(0)
        self.assertLessEqual(len(calls), 16000)
        self.assertEqual(answers(calls), [1, 0, 1, 1, 6, 0, 0, 1, 0, 0, 46])

    def test_the_list_stays_as_it_was(self):
        calls = self.calls()
        copy = list(calls)
        answers(calls)
        self.assertEqual(calls, copy)

    def test_nothing_is_kept(self):
        calls = self.calls()
        first = answers(calls)
        self.assertEqual(answers(calls), first)
        answers(add("7", "8"))
        self.assertEqual(answers(outputs("7")), [1, -8])

    def test_what_is_given_back_is_free_to_change(self):
        calls = self.calls()
        first = answers(calls)
        copy = list(first)
        first.clear()
        self.assertEqual(answers(calls), copy)

    def test_whole_numbers_alone(self):
        self.assertEqual({type(part) for part in answers(self.calls())}, {int})
        self.assertIs(type(answers([5, 0])), list)
