"""Promise 5: convert."""

import unittest

from tests import other_way
from tests.lines import HIGHEST, LOWEST, ask, ask_many, convert, text_of

FORMS = other_way.list_of_forms()


class ConvertTest(unittest.TestCase):
    def test_number_to_number(self):
        self.assertEqual(ask(convert(1, 0, "1,234")), text_of("1234"))
        self.assertEqual(ask(convert(0, 29, "7")), text_of("07.0"))
        self.assertEqual(ask(convert(24, 0, "7.0")), text_of("7"))
        self.assertEqual(ask(convert(24, 0, "7.5")), [1])
        self.assertEqual(ask(convert(20, 1, "-001234")), text_of("-1,234"))
        self.assertEqual(ask(convert(0, 24, "9" * 15)), text_of("9" * 15 + ".0"))

    def test_date_to_date(self):
        self.assertEqual(ask(convert(181, 254, "5/3/2021")), text_of("2021-03-05"))
        self.assertEqual(ask(convert(254, 195, "2021-03-05")), text_of("05 March 2021"))
        self.assertEqual(ask(convert(181, 254, "12/13/1999")), [1])

    def test_number_to_date_and_date_to_number(self):
        self.assertEqual(ask(convert(0, 168, "7")), [1])
        self.assertEqual(ask(convert(168, 0, "05.03.2021")), [1])
        # The same text is read as a number and as a date.
        self.assertEqual(ask(convert(0, 200, "15032021")), [1])
        self.assertEqual(ask(convert(200, 0, "15032021")), [1])
        self.assertEqual(ask(convert(200, 254, "15032021")), text_of("2021-03-15"))

    def test_not_read(self):
        for text in ("", "1234", "1,23", [0], [44] * 10000):
            self.assertEqual(ask(convert(1, 0, text)), [1])

    def test_no_such_form(self):
        for i in (-1, 273, LOWEST, HIGHEST):
            for text in ("7", "", "no"):
                self.assertEqual(ask(convert(i, 0, text)), [-2])
                self.assertEqual(ask(convert(0, i, text)), [-2])
                self.assertEqual(ask(convert(i, i, text)), [-2])
                self.assertEqual(ask(convert(168, i, text)), [-2])

    def test_into_every_form(self):
        for i, value in ((0, (0, 1234, 0)), (24, (0, -75, 1)), (97, (0, 1005, 3)), (168, (1, 2021, 3, 5))):
            source = other_way.write(FORMS[i], value)
            texts = [other_way.write(form, value) for form in FORMS]
            expected = [[1] if text is None else text_of(text) for text in texts]
            self.assertEqual(ask_many([convert(i, j, source) for j in range(273)]), expected)
