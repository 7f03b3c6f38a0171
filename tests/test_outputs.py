"""Promise 15, outputs, and promise 10, add, without which it has no examples."""

import unittest

from tests import other_way
from tests.lines import add, ask, ask_all, coded, outputs

FORMS = other_way.list_of_forms()


def given(count, text):
    return [count, len(text)] + coded(text)


def expected_outputs(examples, text):
    """What outputs answers, found by going through all pairs of forms."""
    counts = {}
    for f in FORMS:
        if any(other_way.read(f, source) is None for source, target in examples) or other_way.read(f, text) is None:
            continue
        for g in FORMS:
            if all(other_way.write(g, other_way.read(f, source)) == target for source, target in examples):
                found = other_way.write(g, other_way.read(f, text))
                if found is not None:
                    counts[found] = counts.get(found, 0) + 1
    return [len(counts)] + [part for found, count in counts.items() for part in given(count, found)]


class OutputsTest(unittest.TestCase):
    def test_example_of_the_document(self):
        answer = ask_all([add("3/3/2021", "2021-03-03"), outputs("4/5/2000")])
        self.assertEqual(answer, [[0], [2] + given(1, "2000-05-04") + given(1, "2000-04-05")])

    def test_one_text_of_several_pairs(self):
        self.assertEqual(ask_all([add("7", "7"), outputs("8")])[1], [1] + given(16, "8"))

    def test_no_examples(self):
        for text in ("", "7", [255] * 10000):
            self.assertEqual(ask(outputs(text)), [-8])

    def test_none_is_given(self):
        self.assertEqual(ask_all([add("no", "no"), outputs("7")])[1], [0])
        self.assertEqual(ask_all([add("7", "8"), outputs("7")])[1], [0])
        self.assertEqual(ask_all([add("7", "7"), outputs("05.03.2021"), outputs("")])[1:], [[0], [0]])
        self.assertEqual(ask_all([add("7", "7"), outputs([49] * 10000)])[1], [0])
        self.assertEqual(ask_all([add("", ""), outputs("7")])[1], [0])

    def test_more_examples_fit_fewer_pairs(self):
        answer = ask_all([add("3/3/2021", "2021-03-03"), add("13/3/2021", "2021-03-13"), outputs("4/5/2000"),
                          add("1/2/2021", "2021-01-02"), outputs("4/5/2000")])
        self.assertEqual(answer, [[0], [0], [1] + given(1, "2000-05-04"), [0], [0]])

    def test_against_all_pairs(self):
        for examples, text in (([("100", "100")], "1234"), ([("100", "100.0")], "-1234567"),
                               ([("1,234", "1.234")], "12,345"), ([("1,234", "1.234"), ("0,500", "0.500")], "7,000"),
                               ([("5 May 2021", "05May2021")], "6 May 1999"),
                               ([("5 May 2021", "05May2021")], "6 Mar 1999"),
                               ([("11122021", "2021/11/12")], "05032021"), ([("-0.5", "-0,50")], "1234.5")):
            answer = ask_all([add(*example) for example in examples] + [outputs(text)])[-1]
            self.assertEqual(answer, expected_outputs(examples, text), (examples, text))


class AddTest(unittest.TestCase):
    def test_texts_that_may_not_be(self):
        good = " " * 39 + "~"
        for bad in ("1" * 41, [31], [127], [55, 0], [55, 255], [10], "1" * 9000):
            self.assertEqual(ask_all([add(bad, good), outputs("7")]), [[-1], [-8]])
            self.assertEqual(ask_all([add(good, bad), outputs("7")]), [[-1], [-8]])
        self.assertEqual(ask(add(good, good)), [0])
        self.assertEqual(ask(add("", "")), [0])

    def test_at_most_ten(self):
        calls = [add("7", "7")] * 10 + [add("7", "8"), add("7" * 41, "7"), outputs("8")]
        self.assertEqual(ask_all(calls), [[0]] * 10 + [[-6], [-1], [1] + given(16, "8")])
