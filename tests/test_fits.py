"""Promise 6: fits. (test_read.py holds it against another reader, too.)"""

import unittest

from tests.lines import ask, fits


class FitsTest(unittest.TestCase):
    def test_example_of_the_document(self):
        self.assertEqual(ask(fits("007")), [0, 8, 9, 10, 11])

    def test_numbers(self):
        self.assertEqual(ask(fits("7")), [0, 0, 1, 2, 3])
        self.assertEqual(ask(fits("100")), [0] + list(range(12)))
        # Also as -1.234, with three decimals, the mark "," and the width 1.
        self.assertEqual(ask(fits("-1,234")), [0, 1, 5, 9, 13, 114, 115, 116])

    def test_dates(self):
        self.assertEqual(ask(fits("05.03.2021")), [0, 168, 203])
        self.assertEqual(ask(fits("5/3/2021")), [0, 181, 216])
        self.assertEqual(ask(fits("25/12/2021")), [0, 176, 177, 180, 181])
        self.assertEqual(ask(fits("5 May 2021")), [0, 198, 199])
        self.assertEqual(ask(fits("2021-03-05")), [0, 254])

    def test_a_number_and_a_date(self):
        self.assertEqual(ask(fits("15122021")), [0, 0, 4, 8, 12, 16, 20, 200])
        self.assertEqual(ask(fits("11122021")), [0, 0, 4, 8, 12, 16, 20, 200, 235])

    def test_no_form(self):
        for text in ("", "-", "-0", "-0,0", "1,2,3", "29.02.2021", "May", "1.23456", "1" + "0" * 15, [0], [255] * 3,
                     [49] * 10000):
            self.assertEqual(ask(fits(text)), [0])
