"""Promises 7 and 8: day and dateof."""

import calendar
import datetime
import unittest

from tests.lines import HIGHEST, LOWEST, ask, ask_many, dateof, day
from tests.test_date import NO_DATES


class DayTest(unittest.TestCase):
    def test_example_of_the_document(self):
        self.assertEqual(ask(day(1, 1, 1)), [0, 1, 0])

    def test_first_and_last(self):
        self.assertEqual(ask(day(1, 1, 2)), [0, 2, 1])
        self.assertEqual(ask(day(1, 1, 7)), [0, 7, 6])
        self.assertEqual(ask(day(1, 1, 8)), [0, 8, 0])
        self.assertEqual(ask(day(9999, 12, 31)), [0, 3652059, 4])

    def test_against_the_library(self):
        told = [(year, month, last) for year in (1, 4, 99, 100, 101, 400, 1900, 2000, 2020, 2021, 9996, 9999)
                for month in range(1, 13) for last in (1, 15, 28)]
        told += [(year, 2, 29) for year in (4, 400, 1600, 2000, 2020, 2024)]
        told += [(2021, month, 30) for month in (4, 6, 9, 11)]
        told += [(2021, month, 31) for month in (1, 3, 5, 7, 8, 10, 12)]
        for date, answer in zip(told, ask_many([day(*date) for date in told])):
            known = datetime.date(*date)
            self.assertEqual(answer, [0, known.toordinal(), known.weekday()], date)

    def test_no_date(self):
        for told in NO_DATES:
            self.assertEqual(ask(day(*told)), [-3], told)

    def test_every_month_has_its_length(self):
        for year in (2020, 2021):
            for month in range(1, 13):
                length = calendar.monthrange(year, month)[1]
                self.assertEqual(ask(day(year, month, length))[0], 0, (year, month))
                self.assertEqual(ask(day(year, month, length + 1)), [-3], (year, month))


class DateofTest(unittest.TestCase):
    def test_example_of_the_document(self):
        self.assertEqual(ask(dateof(3652059)), [0, 9999, 12, 31])

    def test_no_such_day(self):
        for n in (0, -1, 3652060, LOWEST, HIGHEST):
            self.assertEqual(ask(dateof(n)), [-7])
        self.assertEqual(ask(dateof(1)), [0, 1, 1, 1])

    def test_ends_of_months_and_years(self):
        numbers = []
        for year in (1, 2, 4, 5, 100, 101, 399, 400, 401, 1900, 1999, 2000, 2001, 2020, 9998, 9999):
            for month in range(1, 13):
                first = datetime.date(year, month, 1).toordinal()
                numbers += [n for n in (first - 1, first, first + 27, first + 28) if n > 0]
        self.hold_against_the_library(numbers)

    def test_all_over(self):
        self.hold_against_the_library(list(range(1, 3652060, 977)) + list(range(1, 1600)) + [3652058, 3652059])

    def hold_against_the_library(self, numbers):
        for n, answer in zip(numbers, ask_many([dateof(n) for n in numbers])):
            known = datetime.date.fromordinal(n)
            self.assertEqual(answer, [0, known.year, known.month, known.day])

    def test_undoes_day(self):
        told = [(year, month, last) for year in (1, 4, 100, 400, 2020, 9999) for month in range(1, 13)
                for last in (1, 28)]
        numbers = [answer[1] for answer in ask_many([day(*date) for date in told])]
        self.assertEqual(ask_many([dateof(n) for n in numbers]), [[0] + list(date) for date in told])
