"""Promises 10 and 11: add and take."""

import unittest

from tests.lines import HIGHEST, LOWEST, add, apply, ask, ask_all, given, least, outputs, pairs, take, text_of

NONE_FITS = add("7", "8")
# The first fits the pairs of 181 and of 216 with 254, the second that of 181 alone, the third that of 216.
BOTH_ORDERS = add("3/3/2021", "2021-03-03")
DAY_FIRST = add("5/3/2021", "2021-03-05")
MONTH_FIRST = add("3/5/2021", "2021-03-05")


class AddTest(unittest.TestCase):
    def test_example_of_the_document(self):
        self.assertEqual(ask(add("5/3/2021", "2021-03-05")), [0])

    def test_behind_the_others(self):
        # Which one is the last is seen by taking it.
        found = ask_all([BOTH_ORDERS, DAY_FIRST, pairs(), take(1), pairs(), MONTH_FIRST, least(), take(1), pairs(),
                         take(0), pairs()])
        self.assertEqual(found, [[0], [0], [0, 1], [0], [0, 2], [0], [0, 216, 254], [0], [0, 2], [0], [0, 74529]])

    def test_the_same_once_more(self):
        self.assertEqual(ask_all([DAY_FIRST, DAY_FIRST, take(0), pairs(), take(0), pairs()]),
                         [[0], [0], [0], [0, 1], [0], [0, 74529]])

    def test_lengths(self):
        for length in (0, 1, 39, 40):
            for text in ("1" * length, " " * length, "~" * length):
                self.assertEqual(ask_all([add(text, "7"), add("7", text), add(text, text), take(2), take(3)]),
                                 [[0], [0], [0], [0], [-2]])
        for length in (41, 42, 100, 9000):
            self.hold_bad("1" * length)

    def test_bytes(self):
        for sign in range(256):
            expected = [0] if 32 <= sign <= 126 else [-1]
            for text in ([sign], [48] * 39 + [sign], [sign] + [48] * 39):
                self.assertEqual(ask_all([add(text, "7"), add("7", text)]), [expected, expected], text)
        for bad in ([31], [127], [55, 0], [55, 255], [10], [55, 31, 55], [127] * 41, [0] * 10000):
            self.hold_bad(bad)

    def hold_bad(self, bad):
        """The text can be neither input nor output, and what is refused leaves no trace."""
        good = " " * 39 + "~"
        for call in (add(bad, good), add(good, bad)):
            self.assertEqual(ask_all([call, take(0), pairs(), outputs("7")]), [[-1], [-2], [0, 74529], [-8]])
            self.assertEqual(ask_all([DAY_FIRST, call, pairs(), least(), take(1), take(0), take(0)]),
                             [[0], [-1], [0, 1], [0, 181, 254], [-2], [0], [-2]])

    def test_both_are_bad(self):
        self.assertEqual(ask_all([add([31], [127]), take(0)]), [[-1], [-2]])

    def test_at_most_ten(self):
        calls = [add("7", "7")] * 10 + [NONE_FITS, pairs(), outputs("8"), take(10), take(9), take(9)]
        self.assertEqual(ask_all(calls), [[0]] * 10 + [[-6], [0, 16], [1] + given(16, "8"), [-2], [0], [-2]])

    def test_a_bad_text_is_told_ahead_of_too_many(self):
        for bad in ("7" * 41, [31], [127]):
            self.assertEqual(ask_all([add("7", "7")] * 10 + [add(bad, "7"), add("7", bad), add("7", "7")]),
                             [[0]] * 10 + [[-1], [-1], [-6]])

    def test_after_a_take_there_is_room_again(self):
        self.assertEqual(ask_all([add("7", "7")] * 10 + [take(4), NONE_FITS, pairs(), NONE_FITS, take(9), pairs()]),
                         [[0]] * 10 + [[0], [0], [0, 0], [-6], [0], [0, 16]])


class TakeTest(unittest.TestCase):
    def left(self, i):
        """What is learned from three examples less the one with the number i."""
        return ask_all([BOTH_ORDERS, DAY_FIRST, NONE_FITS, take(i), pairs(), take(1), pairs(), take(0), pairs(),
                        take(0)])[3:]

    def test_first(self):
        self.assertEqual(self.left(0), [[0], [0, 0], [0], [0, 1], [0], [0, 74529], [-2]])

    def test_in_the_middle(self):
        self.assertEqual(self.left(1), [[0], [0, 0], [0], [0, 2], [0], [0, 74529], [-2]])

    def test_last(self):
        self.assertEqual(self.left(2), [[0], [0, 1], [0], [0, 2], [0], [0, 74529], [-2]])

    def test_those_behind_move_up(self):
        calls = [BOTH_ORDERS, NONE_FITS, DAY_FIRST, take(1), least(), apply("4/5/2000"), take(2), take(1), pairs(),
                 MONTH_FIRST, take(0), least(), take(1), take(0), outputs("7")]
        self.assertEqual(ask_all(calls)[3:],
                         [[0], [0, 181, 254], text_of("2000-05-04"), [-2], [0], [0, 2], [0], [0], [0, 216, 254], [-2],
                          [0], [-8]])

    def test_none_is_there(self):
        for i in (0, 1, -1, 9, 10, 272, LOWEST, HIGHEST):
            self.assertEqual(ask_all([take(i), pairs()]), [[-2], [0, 74529]], i)
        self.assertEqual(ask_all([DAY_FIRST, take(0), take(0)]), [[0], [0], [-2]])

    def test_no_such_example(self):
        for i in (-1, -2, -3, 2, 3, 9, 10, LOWEST, HIGHEST):
            found = ask_all([BOTH_ORDERS, DAY_FIRST, take(i), pairs(), least(), take(1), pairs(), take(0), take(0)])
            self.assertEqual(found[2:], [[-2], [0, 1], [0, 181, 254], [0], [0, 2], [0], [-2]], i)

    def test_all_ten(self):
        self.assertEqual(ask_all([DAY_FIRST] * 10 + [take(9 - k) for k in range(10)] + [take(0), pairs()]),
                         [[0]] * 20 + [[-2], [0, 74529]])
