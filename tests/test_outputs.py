"""Promise 15: outputs."""

import unittest

from tests import other_way
from tests.lines import add, ask, ask_all, given, outputs, take


class OutputsTest(unittest.TestCase):
    def test_example_of_the_document(self):
        answer = ask_all([add("3/3/2021", "2021-03-03"), outputs("4/5/2000")])
        self.assertEqual(answer, [[0], [2] + given(1, "2000-05-04") + given(1, "2000-04-05")])

    def test_one_text_of_several_pairs(self):
        self.assertEqual(ask_all([add("7", "7"), outputs("8")])[1], [1] + given(16, "8"))

    def test_several_texts_of_several_pairs(self):
        # Without a group sign 4 of the 16 pairs read it, one for each group sign of the output.
        self.assertEqual(ask_all([add("7", "7"), outputs("1234")])[1],
                         [4] + given(1, "1234") + given(1, "1,234") + given(1, "1.234") + given(1, "1 234"))
        self.assertEqual(ask_all([add("100", "100"), outputs("1234")])[1],
                         [4] + given(9, "1234") + given(9, "1,234") + given(9, "1.234") + given(9, "1 234"))

    def test_a_text_given_again_later(self):
        # The pairs of the width 1 come ahead of those of the width 2, by the group signs each.
        self.assertEqual(ask_all([add("10", "10.0"), outputs("12345")])[1],
                         [3] + given(4, "12345.0") + given(4, "12,345.0") + given(4, "12 345.0"))

    def test_some_pairs_give_nothing(self):
        self.assertEqual(ask_all([add("3/3/2021", "2021-03-03"), outputs("4/13/2000")])[1],
                         [1] + given(1, "2000-04-13"))
        self.assertEqual(ask_all([add("0.0", "0,000"), outputs("7.0"), outputs("7.5")])[1:],
                         [[2] + given(3, "0,007") + given(9, "7,000"), [1] + given(9, "7,500")])

    def test_no_examples(self):
        for text in ("", "7", [255] * 10000):
            self.assertEqual(ask(outputs(text)), [-8])
        self.assertEqual(ask_all([add("7", "7"), take(0), outputs("7")]), [[0], [0], [-8]])
        self.assertEqual(ask_all([add([31], "7"), outputs("7")]), [[-1], [-8]])

    def test_none_is_given(self):
        self.assertEqual(ask_all([add("no", "no"), outputs("7")])[1], [0])
        self.assertEqual(ask_all([add("7", "8"), outputs("7")])[1], [0])
        self.assertEqual(ask_all([add("7", "7"), outputs("05.03.2021"), outputs("")])[1:], [[0], [0]])
        self.assertEqual(ask_all([add("7", "7"), outputs([49] * 10000)])[1], [0])
        self.assertEqual(ask_all([add("", ""), outputs("7")])[1], [0])

    def test_more_examples_fit_fewer_pairs(self):
        answer = ask_all([add("3/3/2021", "2021-03-03"), add("13/3/2021", "2021-03-13"), outputs("4/5/2000"),
                          add("1/2/2021", "2021-01-02"), outputs("4/5/2000"), take(2), outputs("4/5/2000")])
        self.assertEqual(answer, [[0], [0], [1] + given(1, "2000-05-04"), [0], [0], [0], [1] + given(1, "2000-05-04")])

    def test_against_all_pairs(self):
        for examples, text in (([("100", "100")], "1234"), ([("100", "100.0")], "-1234567"),
                               ([("1,234", "1.234")], "12,345"), ([("1,234", "1.234"), ("0,500", "0.500")], "7,000"),
                               ([("5 May 2021", "05May2021")], "6 May 1999"), ([("0.0", "0,000")], "1234.0"),
                               ([("5 May 2021", "05May2021")], "6 Mar 1999"), ([("100,000", "100,000")], "7,500"),
                               ([("11122021", "2021/11/12")], "05032021"), ([("-0.5", "-0,50")], "1234.5")):
            answer = ask_all([add(*example) for example in examples] + [outputs(text)])[-1]
            counts = other_way.outputs(examples, text)
            expected = [len(counts)] + [part for found, count in counts.items() for part in given(count, found)]
            self.assertEqual(answer, expected, (examples, text))
