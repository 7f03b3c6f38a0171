"""Promise 9: shift."""

import datetime
import unittest

from tests import other_way
from tests.lines import HIGHEST, LOWEST, ask, ask_many, shift, text_of

FORMS = other_way.list_of_forms()
DATE_FORMS = [i for i, form in enumerate(FORMS) if form[0] == "date"]
LAST = datetime.date.max.toordinal()


def written(i, number):
    """The text of the day with this number in form i."""
    day = datetime.date.fromordinal(number)
    return other_way.write_date(FORMS[i], day.year, day.month, day.day)


class ShiftTest(unittest.TestCase):
    def shifted(self, i, n, text, expected):
        self.assertEqual(ask(shift(i, n, text)), text_of(expected), (FORMS[i], n, text))

    def test_example_of_the_document(self):
        self.shifted(168, -5, "05.03.2021", "28.02.2021")

    def test_by_no_days(self):
        self.shifted(168, 0, "05.03.2021", "05.03.2021")
        self.shifted(254, 0, "0001-01-01", "0001-01-01")
        self.shifted(254, 0, "9999-12-31", "9999-12-31")

    def test_over_the_ends_of_months_and_years(self):
        self.shifted(168, 1, "30.04.2021", "01.05.2021")
        self.shifted(168, -1, "01.05.2021", "30.04.2021")
        self.shifted(168, 1, "31.12.2021", "01.01.2022")
        self.shifted(168, -1, "01.01.2022", "31.12.2021")
        self.shifted(168, 365, "05.03.2021", "05.03.2022")
        self.shifted(168, 146097, "05.03.2021", "05.03.2421")
        self.shifted(168, -146097, "05.03.2021", "05.03.1621")

    def test_over_leap_days(self):
        self.shifted(254, 1, "2020-02-28", "2020-02-29")
        self.shifted(254, 2, "2020-02-28", "2020-03-01")
        self.shifted(254, 1, "2021-02-28", "2021-03-01")
        self.shifted(254, 1, "1900-02-28", "1900-03-01")
        self.shifted(254, 1, "2000-02-28", "2000-02-29")
        self.shifted(254, -1, "2020-03-01", "2020-02-29")
        self.shifted(254, -1, "2100-03-01", "2100-02-28")
        self.shifted(254, 366, "2020-02-29", "2021-03-01")

    def test_the_way_of_the_form_is_kept(self):
        self.shifted(181, 5, "5/3/2021", "10/3/2021")
        self.shifted(181, -5, "10/12/2021", "5/12/2021")
        self.shifted(181, 1, "30/9/2021", "1/10/2021")
        self.shifted(195, 31, "05 March 2021", "05 April 2021")
        self.shifted(199, 1, "31 May 2021", "1 June 2021")
        self.shifted(272, 1, "0999September30", "0999October01")
        self.shifted(271, 1, "0999Dec31", "1000Jan01")

    def test_first_and_last_day(self):
        self.shifted(254, -1, "0001-01-02", "0001-01-01")
        self.shifted(254, 1, "9999-12-30", "9999-12-31")
        self.shifted(254, LAST - 1, "0001-01-01", "9999-12-31")
        self.shifted(254, 1 - LAST, "9999-12-31", "0001-01-01")

    def test_no_such_day(self):
        for n, text in ((-1, "0001-01-01"), (1, "9999-12-31"), (LAST, "0001-01-01"), (-LAST, "9999-12-31"),
                        (-2, "0001-01-02"), (2, "9999-12-30"), (LOWEST, "2021-03-05"), (HIGHEST, "2021-03-05"),
                        (LOWEST, "9999-12-31"), (HIGHEST, "0001-01-01")):
            self.assertEqual(ask(shift(254, n, text)), [-7], (n, text))

    def test_every_form(self):
        dates = ((2020, 2, 28), (2021, 12, 31), (1999, 9, 9), (987, 5, 31))
        starts = [datetime.date(*told).toordinal() for told in dates]
        steps = (0, 1, -1, 2, 9, 30, -31, 100, 365, -366, 100000, -300000)
        for i in DATE_FORMS:
            asked = [(n, start) for n in steps for start in starts]
            expected = [text_of(written(i, start + n)) for n, start in asked]
            self.assertEqual(ask_many([shift(i, n, written(i, start)) for n, start in asked]), expected, FORMS[i])

    def test_ends_in_every_form(self):
        for i in DATE_FORMS:
            first = written(i, 1)
            last = written(i, LAST)
            found = ask_many([shift(i, -1, first), shift(i, 1, last), shift(i, LAST - 1, first),
                              shift(i, 1 - LAST, last), shift(i, LOWEST, first), shift(i, HIGHEST, last)])
            self.assertEqual(found, [[-7], [-7], text_of(last), text_of(first), [-7], [-7]], FORMS[i])

    def test_not_read(self):
        for text in ("", "5.3.2021", "05.03.21", "29.02.2021", "31.04.2021", "00.01.2021", "01.13.2021", "01.01.0000",
                     "05.03.2021 ", " 05.03.2021", "05/03/2021", "7", [0], [255] * 10, [48] * 10000):
            for n in (0, 1, -5, LAST, -LAST, LOWEST, HIGHEST):
                self.assertEqual(ask(shift(168, n, text)), [1], (n, text))

    def test_a_number_form(self):
        for n in (0, 1, -5, LAST, LOWEST, HIGHEST):
            for i, text in ((0, "7"), (0, "15032021"), (0, ""), (24, "7.5"), (167, "05.03.2021"), (20, "15032021")):
                self.assertEqual(ask(shift(i, n, text)), [1], (i, n, text))
        texts = [other_way.write_number(form, 1234567, 0) for form in FORMS[:168]]
        self.assertEqual(ask_many([shift(i, 1, text) for i, text in enumerate(texts)]), [[1]] * 168)

    def test_no_such_form_comes_first(self):
        for i in (-1, 273, LOWEST, HIGHEST):
            for n, text in ((0, "05.03.2021"), (LOWEST, "05.03.2021"), (HIGHEST, "no"), (1, "9999-12-31"), (0, "")):
                self.assertEqual(ask(shift(i, n, text)), [-2], (i, n, text))
