"""Promise 2: read."""

import unittest

from tests import other_way
from tests.lines import HIGHEST, LOWEST, ask, ask_many, coded, convert, fits, read

FORMS = other_way.list_of_forms()
NUMBER_OF = {form: i for i, form in enumerate(FORMS)}


def number_form(width, group, decimals, mark="."):
    return NUMBER_OF[("number", width, group, decimals, mark)]


def date_form(order, separator, day_way, month_way):
    return NUMBER_OF[("date", order, separator, day_way, month_way)]


class ReadNumberTest(unittest.TestCase):
    def reads(self, i, text, n, s):
        self.assertEqual(ask(read(i, text)), [0, 0, n, s], (FORMS[i], text))

    def refuses(self, i, *texts):
        for text in texts:
            self.assertEqual(ask(read(i, text)), [1], (FORMS[i], text))

    def test_examples_of_the_document(self):
        self.reads(1, "1,234", 1234, 0)
        self.refuses(0, "1,234")

    def test_widths(self):
        for width in range(1, 7):
            i = number_form(width, "", 0)
            self.reads(i, "7".rjust(width, "0"), 7, 0)
            self.reads(i, "0" * width, 0, 0)
            self.reads(i, "-" + "7".rjust(width, "0"), -7, 0)
            self.reads(i, "1234567", 1234567, 0)
            self.refuses(i, "7".rjust(width + 1, "0"), "7".rjust(width, "0")[1:], "0" * (width + 1), "01234567")

    def test_group_signs(self):
        for group in (",", ".", " "):
            i = number_form(1, group, 0)
            self.reads(i, "1" + group + "234" + group + "567", 1234567, 0)
            self.reads(i, "-12" + group + "345", -12345, 0)
            self.reads(i, "123", 123, 0)
            self.refuses(i, "1234", "12" + group + "34", "1234" + group + "567", group + "123", "123" + group,
                         "1" + group + group + "234", "-" + group + "123", "1" + group + "234567",
                         "0" + group + "123", "1;234")
            for other in {",", ".", " "} - {group}:
                self.refuses(i, "1" + other + "234")

    def test_zeros_put_ahead_are_counted_as_digits(self):
        self.reads(number_form(4, ",", 0), "0,007", 7, 0)
        self.refuses(number_form(4, ",", 0), "0007", "007", "00,007")
        self.reads(number_form(6, " ", 0), "000 007", 7, 0)
        self.reads(number_form(5, ".", 2, ","), "-00.123,40", -1234, 1)
        self.reads(number_form(3, ".", 0), "007", 7, 0)

    def test_decimals_and_marks(self):
        for decimals in range(1, 5):
            for mark in ".,":
                i = number_form(1, "", decimals, mark)
                text = "12" + mark + "3456"[:decimals]
                self.reads(i, text, int("12" + "3456"[:decimals]), decimals)
                self.refuses(i, text + "1", text[:-1], "12", "12" + mark, mark + "3456"[:decimals],
                             text.replace(mark, ";"), text.replace(mark, "." if mark == "," else ","), "0" + text)
        self.refuses(number_form(1, "", 0), "12.", "12.0")

    def test_the_group_sign_and_the_mark(self):
        self.reads(number_form(1, ",", 2), "1,234.56", 123456, 2)
        self.reads(number_form(1, ".", 2, ","), "1.234,56", 123456, 2)
        self.reads(number_form(2, " ", 1, ","), "01,5", 15, 1)
        self.reads(number_form(1, ",", 4), "1,234.5678", 12345678, 4)
        self.refuses(number_form(1, ",", 4), "1,234.5,678", "1.234,5678")

    def test_s_is_as_small_as_it_can_be(self):
        self.reads(number_form(1, "", 4), "7.5000", 75, 1)
        self.reads(number_form(1, "", 4), "7.0000", 7, 0)
        self.reads(number_form(1, "", 4), "700.0000", 700, 0)
        self.reads(number_form(1, "", 4), "0.0000", 0, 0)
        self.reads(number_form(1, "", 4), "0.0001", 1, 4)
        self.reads(number_form(1, "", 4), "-0.0100", -1, 2)
        self.reads(number_form(1, "", 0), "700", 700, 0)

    def test_minus(self):
        self.reads(number_form(1, "", 1), "-0.5", -5, 1)
        self.refuses(number_form(1, "", 0), "-0", "-", "--1", "+1", "1-", " 1", "- 1", "-01")
        self.refuses(number_form(3, "", 0), "-000", "-00")
        self.refuses(number_form(1, "", 2), "-0.00", "--0.01", "0.-1")

    def test_whole_parts_of_15_and_16_digits(self):
        nines = "9" * 15
        for decimals in range(5):
            i = number_form(1, "", decimals)
            rest = "." + "9" * decimals if decimals else ""
            self.reads(i, nines + rest, 10 ** (15 + decimals) - 1, decimals)
            self.reads(i, "-" + nines + rest, 1 - 10 ** (15 + decimals), decimals)
            self.refuses(i, "1" + "0" * 15 + rest, "9" + nines + rest, "-1" + "0" * 15 + rest)
        self.reads(number_form(1, ",", 4), "-999,999,999,999,999.9999", 1 - 10 ** 19, 4)
        self.refuses(number_form(1, ",", 4), "1,000,000,000,000,000.0000", "-1,000,000,000,000,000.0001")

    def test_no_numbers(self):
        for i in range(168):
            texts = ("", "-", ".", ",", " ", "a", "1e3", "0x1")
            self.assertEqual(ask_many([read(i, text) for text in texts]), [[1]] * 8)
        self.refuses(0, [0], [255], [47], [58], [49, 0], [0, 49], [49, 10], [128 + 49], [178])


class ReadDateTest(unittest.TestCase):
    def reads(self, i, text, year, month, day):
        self.assertEqual(ask(read(i, text)), [0, 1, year, month, day], (FORMS[i], text))

    def refuses(self, i, *texts):
        for text in texts:
            self.assertEqual(ask(read(i, text)), [1], (FORMS[i], text))

    def test_orders(self):
        for separator in (".", "/", "-", " ", ""):
            def joined(*parts):
                return separator.join(parts)
            self.reads(date_form(0, separator, 2, 2), joined("05", "03", "2021"), 2021, 3, 5)
            self.reads(date_form(1, separator, 2, 2), joined("05", "03", "2021"), 2021, 5, 3)
            self.reads(date_form(2, separator, 2, 2), joined("2021", "03", "05"), 2021, 3, 5)
            self.reads(date_form(0, separator, 2, 3), joined("05", "Mar", "2021"), 2021, 3, 5)
            self.reads(date_form(1, separator, 2, 4), joined("September", "30", "0001"), 1, 9, 30)
            self.reads(date_form(2, separator, 2, 4), joined("2021", "March", "05"), 2021, 3, 5)

    def test_ways_of_the_day(self):
        self.reads(date_form(0, "/", 1, 1), "5/3/2021", 2021, 3, 5)
        self.reads(date_form(0, "/", 1, 1), "15/12/2021", 2021, 12, 15)
        self.reads(date_form(0, "/", 2, 1), "05/3/2021", 2021, 3, 5)
        self.refuses(date_form(0, "/", 1, 1), "05/3/2021", "5/03/2021", "005/3/2021", "/3/2021", "5//2021")
        self.refuses(date_form(0, "/", 2, 1), "5/3/2021", "005/3/2021", "05/03/2021")

    def test_ways_of_the_month(self):
        self.reads(date_form(0, " ", 1, 3), "5 Mar 2021", 2021, 3, 5)
        self.reads(date_form(0, " ", 1, 4), "5 March 2021", 2021, 3, 5)
        self.reads(date_form(0, " ", 1, 3), "5 May 2021", 2021, 5, 5)
        self.reads(date_form(0, " ", 1, 4), "5 May 2021", 2021, 5, 5)
        self.refuses(date_form(0, " ", 1, 3), "5 March 2021", "5 mar 2021", "5 MAR 2021", "5 Ma 2021", "5 3 2021",
                     "5 Mar. 2021", "5  2021", "5 Mai 2021")
        self.refuses(date_form(0, " ", 1, 4), "5 Mar 2021", "5 march 2021", "5 Marchs 2021", "5 03 2021")
        self.refuses(date_form(0, " ", 1, 2), "5 3 2021", "5 Mar 2021", "5 003 2021")

    def test_every_form_and_month(self):
        for i, form in enumerate(FORMS):
            if form[0] == "date":
                dates = [(2021, month, 4) for month in range(1, 13)]
                texts = [other_way.write_date(form, *told) for told in dates]
                self.assertEqual(ask_many([read(i, text) for text in texts]), [[0, 1] + list(told) for told in dates])

    def test_years(self):
        i = date_form(2, "-", 2, 2)
        self.reads(i, "0001-01-01", 1, 1, 1)
        self.reads(i, "9999-12-31", 9999, 12, 31)
        self.refuses(i, "0000-01-01", "1-01-01", "001-01-01", "10000-01-01", "00001-01-01", "-001-01-01")

    def test_no_such_date(self):
        i = date_form(0, ".", 2, 2)
        self.reads(i, "29.02.2020", 2020, 2, 29)
        self.reads(i, "29.02.2000", 2000, 2, 29)
        self.refuses(i, "29.02.2021", "29.02.1900", "30.02.2020", "31.04.2021", "31.06.2021", "31.09.2021",
                     "31.11.2021", "32.01.2021", "00.01.2021", "01.00.2021", "01.13.2021", "99.99.9999")
        self.refuses(date_form(0, "", 2, 3), "31Apr2021", "00Jan2021")

    def test_separators(self):
        signs = (".", "/", "-", " ")
        for separator in signs:
            i = date_form(0, separator, 2, 2)
            for other in signs + ("", ";", separator * 2):
                if other != separator:
                    self.refuses(i, other.join(("05", "03", "2021")))
            self.refuses(i, "05" + separator + "032021", separator + separator.join(("05", "03", "2021")),
                         separator.join(("05", "03", "2021")) + separator, separator * 2, separator)
        self.refuses(date_form(0, ".", 2, 2), "05.03/2021", "05/03.2021")
        self.refuses(date_form(0, "", 2, 2), "05.03.2021", "5032021", "005032021", "0503202", "05032", "-5032021")
        self.refuses(date_form(2, "", 2, 4), "2021March5", "2021March 05", "2021march05", "March052021")

    def test_no_dates(self):
        for i in range(168, 273):
            self.assertEqual(ask_many([read(i, text) for text in ("", "1", "-", "..", "May", "7.5")]), [[1]] * 6)
        self.refuses(date_form(0, ".", 2, 2), coded("05.03.202") + [0], [0] + coded("5.03.2021"), [255] * 10,
                     coded("05.03.2021") + [10], coded("05.03.202") + [178], coded("05.0:.2021"))


class ReadAnyTest(unittest.TestCase):
    def test_no_such_form(self):
        for i in (-1, 273, LOWEST, HIGHEST):
            self.assertEqual(ask(read(i, "1")), [-2])
            self.assertEqual(ask(read(i, "")), [-2])

    def test_texts_as_long_as_may_be_handed_in(self):
        for text in ([48] * 10000, [49] * 10000, coded(",123" * 2500), [46] * 10000, [45] * 10000,
                     coded("05.03.2021") + [32] * 9990, [255] * 10000):
            for i in (0, 1, 20, 24, 168, 200, 272):
                self.assertEqual(ask(read(i, text)), [1])
            self.assertEqual(ask(fits(text)), [0])

    def test_the_longest_texts_that_are_read(self):
        for i, form in enumerate(FORMS):
            value = (0, 1 - 10 ** (15 + form[3]), form[3]) if form[0] == "number" else (1, 9999, 9, 30)
            self.assertEqual(ask(read(i, other_way.write(form, value))), [0] + list(value), form)

    def test_against_another_reader(self):
        values = [(0, n, s) for n in (0, 7, -7, 75, 123, -1234, 1234567, 10 ** 15 - 1, 10 ** 6) for s in (0, 1, 3)
                  if s == 0 or n % 10]
        values += [(1, 2021, 3, 5), (1, 1, 5, 12), (1, 2020, 2, 29), (1, 9999, 12, 31)]
        texts = {other_way.write(form, value) for form in FORMS for value in values} - {None}
        near = set()
        for text in sorted(texts)[::7]:
            for k in range(len(text)):
                near.update((text[:k] + text[k + 1:], text[:k] + text[k] + text[k:], text[:k] + "0" + text[k:],
                             text[:k] + "," + text[k + 1:], text[:k] + "-" + text[k:]))
        pool = sorted(texts) + sorted(near)[::23]
        for text, answer in zip(pool, ask_many([fits(text) for text in pool])):
            read_in = [i for i, form in enumerate(FORMS) if other_way.read(form, text) is not None]
            self.assertEqual(answer, [0] + read_in, text)
            for i, found in zip(read_in, ask_many([read(i, text) for i in read_in])):
                self.assertEqual(found, [0] + list(other_way.read(FORMS[i], text)), (FORMS[i], text))

    def test_what_is_read_is_written_again(self):
        for text in ("007", "1,234.50", "-0.5", "05.03.2021", "5 May 0001"):
            for i in ask(fits(text))[1:]:
                self.assertEqual(ask(convert(i, i, text)), [0] + coded(text))
