"""Promises 12 and 13: pairs and least."""

import unittest

from tests import other_way
from tests.lines import add, ask, ask_all, least, pairs, take


class PairsTest(unittest.TestCase):
    def learned(self, *examples):
        """What pairs and least answer after these examples."""
        return ask_all([add(*example) for example in examples] + [pairs(), least()])[len(examples):]

    def test_examples_of_the_document(self):
        self.assertEqual(self.learned(("5/3/2021", "2021-03-05")), [[0, 1], [0, 181, 254]])
        self.assertEqual(self.learned(("3/3/2021", "2021-03-03")), [[0, 2], [0, 181, 254]])

    def test_no_examples(self):
        self.assertEqual(ask(pairs()), [0, 273 * 273])
        self.assertEqual(ask(least()), [0, 0, 0])

    def test_one_example_of_numbers(self):
        self.assertEqual(self.learned(("7", "7")), [[0, 16], [0, 0, 0]])
        self.assertEqual(self.learned(("007", "7")), [[0, 16], [0, 8, 0]])
        self.assertEqual(self.learned(("7", "007")), [[0, 16], [0, 0, 8]])
        self.assertEqual(self.learned(("1234.5", "01 234,50")), [[0, 4], [0, 24, 92]])
        self.assertEqual(self.learned(("100,000", "100")), [[0, 9 * 12], [0, 114, 0]])
        self.assertEqual(self.learned(("-0.5", "-0,5")), [[0, 9], [0, 24, 42]])

    def test_one_example_of_dates(self):
        self.assertEqual(self.learned(("05 March 2021", "5/3/2021")), [[0, 1], [0, 195, 181]])
        self.assertEqual(self.learned(("5 May 2021", "2021May05")), [[0, 4], [0, 198, 271]])
        self.assertEqual(self.learned(("25/12/2021", "20211225")), [[0, 4], [0, 176, 270]])

    def test_a_text_of_both_kinds(self):
        self.assertEqual(self.learned(("11122021", "11122021")), [[0, 6 * 6 + 2], [0, 0, 0]])
        self.assertEqual(self.learned(("11122021", "12112021")), [[0, 2], [0, 200, 235]])

    def test_more_examples_leave_fewer_pairs(self):
        self.assertEqual(self.learned(("100", "100.0")), [[0, 12 * 9], [0, 0, 24]])
        self.assertEqual(self.learned(("100", "100.0"), ("20", "20.0")), [[0, 8 * 6], [0, 0, 24]])
        self.assertEqual(self.learned(("100", "100.0"), ("20", "20.0"), ("1,000", "1000.0")), [[0, 2 * 2], [0, 1, 24]])
        self.assertEqual(self.learned(("100", "100.0"), ("20", "20.0"), ("1,000", "1000.0"), ("3", "03.0")),
                         [[0, 1], [0, 1, 27]])
        self.assertEqual(self.learned(("3/3/2021", "2021-03-03"), ("3/13/2021", "2021-03-13")), [[0, 1], [0, 216, 254]])

    def test_order_of_the_examples_is_all_one(self):
        examples = [("100", "100.0"), ("20", "20.0"), ("1,000", "1000.0")]
        self.assertEqual(self.learned(*examples), self.learned(*examples[::-1]))

    def test_no_pair_fits(self):
        for examples in ([("7", "8")], [("", "")], [("no", "no")], [("7", "no")], [("no", "7")], [("7", "")],
                         [("7", "05.03.2021")], [("05.03.2021", "7")], [("11122021", "7")], [("7.5", "7")],
                         [("7", "7"), ("05.03.2021", "05.03.2021")], [("7", "7"), ("8", "9")], [("-0", "-0")],
                         [("7", "7"), ("no", "no")], [("5/3/2021", "2021-03-05"), ("3/5/2021", "2021-03-05")]):
            self.assertEqual(self.learned(*examples), [[0, 0], [1]], examples)

    def test_after_a_take_more_fit_again(self):
        found = ask_all([add("3/3/2021", "2021-03-03"), add("3/5/2021", "2021-03-05"), pairs(), least(), take(1),
                         pairs(), least(), add("7", "7"), pairs(), least(), take(0), pairs(), least(), take(0), pairs(),
                         least()])
        self.assertEqual(found[2:], [[0, 1], [0, 216, 254], [0], [0, 2], [0, 181, 254], [0], [0, 0], [1], [0], [0, 16],
                                     [0, 0, 0], [0], [0, 74529], [0, 0, 0]])

    def test_against_all_pairs(self):
        for examples in ([("100,000", "100,000")], [("0.0", "0,000")], [("1.000", "1,000")], [("1,234", "1.234")],
                         [("1,234", "1.234"), ("0,500", "0.500")], [("123456", "123 456")], [("-1 000", "-1.000,0000")],
                         [("000001", "1")], [("9" * 15, "9" * 15 + ".0")], [("10" * 4 + "2021", "7")],
                         [("10102021", "2021-10-10")], [("20211112", "12/11/2021")], [("May 11 2021", "11.05.2021")],
                         [("11-May-2021", "11-May-2021")],
                         [("11-May-2021", "11-May-2021"), ("1-May-2021", "01-May-2021")],
                         [("12.12.1212", "12121212")], [("0001January01", "1.1.0001")]):
            known = other_way.pairs(examples)
            expected = [[0, len(known)], [0] + list(known[0]) if known else [1]]
            self.assertEqual(self.learned(*examples), expected, examples)
