"""Promise 14: apply."""

import unittest

from tests import other_way
from tests.lines import add, apply, ask, ask_all, least, outputs, take, text_of


class ApplyTest(unittest.TestCase):
    def applied(self, examples, *texts):
        """What apply answers for each text after these examples."""
        return ask_all([add(*example) for example in examples] + [apply(text) for text in texts])[len(examples):]

    def test_examples_of_the_document(self):
        self.assertEqual(self.applied([("5/3/2021", "2021-03-05")], "12/11/1999", "12/13/1999"),
                         [text_of("1999-11-12"), [1]])

    def test_no_examples(self):
        for text in ("", "7", "12/11/1999", [255] * 10000):
            self.assertEqual(ask(apply(text)), [-8])
        self.assertEqual(ask_all([add("7", "7"), take(0), apply("7")]), [[0], [0], [-8]])
        self.assertEqual(ask_all([add("7" * 41, "7"), apply("7")]), [[-1], [-8]])

    def test_by_the_first_of_several(self):
        self.assertEqual(self.applied([("3/3/2021", "2021-03-03")], "4/5/2000"), [text_of("2000-05-04")])
        self.assertEqual(self.applied([("100", "100")], "1234"), [text_of("1234")])

    def test_an_earlier_pair_does_not_read_it(self):
        # There's no month 13 in the first pair's form; the second one's has the month ahead.
        found = ask_all([add("3/3/2021", "2021-03-03"), least(), apply("4/13/2000")])
        self.assertEqual(found, [[0], [0, 181, 254], text_of("2000-04-13")])
        # With the blank between, the way 4 of the month is the second that fits.
        self.assertEqual(self.applied([("5 May 2021", "05.05.2021")], "6 March 1999", "6 Mar 1999"),
                         [text_of("06.03.1999")] * 2)

    def test_an_earlier_pair_does_not_write_it(self):
        # 0,000 is 0 with the width 4 and the group sign, or with three decimals.
        found = ask_all([add("0.0", "0,000"), least(), apply("7.0"), apply("7.5"), outputs("7.5")])
        self.assertEqual(found[1:4], [[0, 24, 13], text_of("0,007"), text_of("7,500")])
        self.assertEqual(found[4][0], 1)

    def test_numbers(self):
        self.assertEqual(self.applied([("1234.5", "01 234,50")], "7.0", "-1234567.8", "0.0", "7", "7.25"),
                         [text_of("00 007,00"), text_of("-1 234 567,80"), text_of("00 000,00"), [1], [1]])

    def test_not_possible(self):
        self.assertEqual(self.applied([("7", "7")], "", "no", "7.5", "05.03.2021", [0], [255], [55] * 10000, "-0"),
                         [[1]] * 8)
        self.assertEqual(self.applied([("100,000", "100")], "100,500", "100.000"), [[1], [1]])

    def test_no_pair_fits(self):
        for examples in ([("7", "8")], [("no", "no")], [("", "")], [("7", "7"), ("8", "9")]):
            self.assertEqual(self.applied(examples, "7", "", "no"), [[1]] * 3, examples)

    def test_longer_than_an_example_may_be(self):
        self.assertEqual(self.applied([("7", "7")], "1" * 15, "1" * 16, "1" * 41), [text_of("1" * 15), [1], [1]])

    def test_after_more_examples_and_fewer(self):
        calls = [add("3/3/2021", "2021-03-03"), apply("4/5/2000"), add("3/5/2021", "2021-03-05"), apply("4/5/2000"),
                 take(1), apply("4/5/2000")]
        self.assertEqual(ask_all(calls)[1::2], [text_of("2000-05-04"), text_of("2000-04-05"), text_of("2000-05-04")])

    def test_against_all_pairs(self):
        for examples, texts in (([("100,000", "100,000")], ("7", "0,500", "1,234", "1234,567", "1.234,567")),
                                ([("0.0", "0,000")], ("7.0", "7.5", "1,234.5", "00.5")),
                                ([("1,234", "1.234")], ("12,345", "0,5", "-0,001")),
                                ([("5 May 2021", "05May2021")], ("6 March 1999", "06 Mar 1999", "31 Apr 2000")),
                                ([("11122021", "2021/11/12")], ("05032021", "13122021", "12132021")),
                                ([("25/12/2021", "20211225")], ("05/3/2021", "5/03/2021", "5/3/2021", "32/1/2021"))):
            for text, answer in zip(texts, self.applied(examples, *texts)):
                found = [other_way.convert(f, g, text) for f, g in other_way.pairs(examples)]
                possible = [one for one in found if one is not None]
                self.assertEqual(answer, text_of(possible[0]) if possible else [1], (examples, text))
