"""Promise 4: date."""

import unittest

from tests import other_way
from tests.lines import HIGHEST, LOWEST, ask, ask_many, date, text_of

FORMS = other_way.list_of_forms()
NO_DATES = ((0, 1, 1), (10000, 1, 1), (-1, 1, 1), (2021, 0, 1), (2021, 13, 1), (2021, -1, 1), (2021, 1, 0),
            (2021, 1, 32), (2021, 1, -1), (2021, 2, 29), (1900, 2, 29), (2100, 2, 29), (2020, 2, 30), (2021, 4, 31),
            (2021, 6, 31), (2021, 9, 31), (2021, 11, 31), (LOWEST, 1, 1), (HIGHEST, 1, 1), (2021, LOWEST, 1),
            (2021, HIGHEST, 1), (2021, 1, LOWEST), (2021, 1, HIGHEST))


class DateTest(unittest.TestCase):
    def test_example_of_the_document(self):
        self.assertEqual(ask(date(168, 2021, 3, 5)), text_of("05.03.2021"))

    def test_orders_and_ways(self):
        self.assertEqual(ask(date(181, 2021, 3, 5)), text_of("5/3/2021"))
        self.assertEqual(ask(date(254, 2021, 3, 5)), text_of("2021-03-05"))
        self.assertEqual(ask(date(195, 2021, 3, 5)), text_of("05 March 2021"))
        self.assertEqual(ask(date(203, 2021, 3, 5)), text_of("03.05.2021"))
        self.assertEqual(ask(date(272, 1, 9, 30)), text_of("0001September30"))
        self.assertEqual(ask(date(271, 999, 12, 1)), text_of("0999Dec01"))

    def test_every_form_and_month(self):
        dates = [(2021, month, 5) for month in range(1, 13)] + [(1, 1, 1), (9999, 12, 31), (2000, 2, 29), (987, 10, 10)]
        for i, form in enumerate(FORMS):
            if form[0] == "date":
                expected = [text_of(other_way.write_date(form, *told)) for told in dates]
                self.assertEqual(ask_many([date(i, *told) for told in dates]), expected, form)

    def test_leap_years(self):
        for year in (4, 400, 1600, 2000, 2020, 2024, 9996):
            self.assertEqual(ask(date(254, year, 2, 29)), text_of(f"{year:04d}-02-29"))
        for year in (1, 100, 200, 300, 1700, 1900, 2021, 2022, 2023, 2100, 9999):
            self.assertEqual(ask(date(254, year, 2, 29)), [-3])

    def test_no_date(self):
        for told in NO_DATES:
            self.assertEqual(ask(date(168, *told)), [-3], told)
            self.assertEqual(ask(date(0, *told)), [-3], told)

    def test_a_number_form(self):
        self.assertEqual(ask_many([date(i, 2021, 3, 5) for i in range(168)]), [[1]] * 168)

    def test_no_such_form_comes_first(self):
        for i in (-1, 273, LOWEST, HIGHEST):
            self.assertEqual(ask(date(i, 2021, 3, 5)), [-2])
            self.assertEqual(ask(date(i, 2021, 2, 29)), [-2])
