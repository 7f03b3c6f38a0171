"""Promise 3: number."""

import unittest

from tests import other_way
from tests.lines import HIGHEST, LOWEST, ask, ask_many, number, text_of

FORMS = other_way.list_of_forms()


class NumberTest(unittest.TestCase):
    def test_examples_of_the_document(self):
        self.assertEqual(ask(number(5, 7, 0)), text_of("07"))
        self.assertEqual(ask(number(24, 75, 1)), text_of("7.5"))
        self.assertEqual(ask(number(0, 75, 1)), [1])

    def test_below_0_and_0(self):
        self.assertEqual(ask(number(0, 0, 0)), text_of("0"))
        self.assertEqual(ask(number(0, 0, 9)), text_of("0"))
        self.assertEqual(ask(number(24, 0, 5)), text_of("0.0"))
        self.assertEqual(ask(number(0, -7, 0)), text_of("-7"))
        self.assertEqual(ask(number(24, -5, 1)), text_of("-0.5"))
        self.assertEqual(ask(number(1, -123456, 0)), text_of("-123,456"))
        self.assertEqual(ask(number(20, -7, 0)), text_of("-000007"))
        self.assertEqual(ask(number(21, 7, 0)), text_of("000,007"))

    def test_s_is_made_as_small_as_it_can_be(self):
        self.assertEqual(ask(number(24, 7500, 3)), text_of("7.5"))
        self.assertEqual(ask(number(0, -7000000000, 9)), text_of("-7"))
        self.assertEqual(ask(number(24, 7510, 3)), [1])
        self.assertEqual(ask(number(0, 10, 2)), [1])

    def test_at_and_above_10_to_the_15th(self):
        self.assertEqual(ask(number(0, 10 ** 15 - 1, 0)), text_of("9" * 15))
        self.assertEqual(ask(number(0, 1 - 10 ** 15, 0)), text_of("-" + "9" * 15))
        for n in (10 ** 15, -10 ** 15, 10 ** 15 + 1, 10 ** 16 - 1, HIGHEST, LOWEST):
            self.assertEqual(ask(number(0, n, 0)), [1])
            self.assertEqual(ask(number(24, n, 0)), [1])
        self.assertEqual(ask(number(25, 10 ** 16 - 1, 1)), text_of("999,999,999,999,999.9"))
        self.assertEqual(ask(number(25, 10 ** 16, 1)), [1])
        self.assertEqual(ask(number(0, HIGHEST, 3)), [1])
        self.assertEqual(ask(number(0, HIGHEST, 4)), text_of("1" + "0" * 14))
        self.assertEqual(ask(number(1, LOWEST, 9)), text_of("-1,000,000,000"))

    def test_s_outside_of_0_to_9(self):
        for s in (-1, 10, 11, LOWEST, HIGHEST):
            self.assertEqual(ask(number(0, 0, s)), [-3])
            self.assertEqual(ask(number(0, HIGHEST, s)), [-3])
            self.assertEqual(ask(number(168, 7, s)), [-3])
        self.assertEqual(ask(number(0, 7000000000, 9)), text_of("7"))

    def test_no_such_form_comes_first(self):
        for i in (-1, 273, LOWEST, HIGHEST):
            self.assertEqual(ask(number(i, 7, 0)), [-2])
            self.assertEqual(ask(number(i, 7, -1)), [-2])
            self.assertEqual(ask(number(i, 7, 10)), [-2])

    def test_a_date_form(self):
        self.assertEqual(ask_many([number(i, 7, 0) for i in range(168, 273)]), [[1]] * 105)

    def test_against_another_writer(self):
        cases = [(n, s) for n in (0, 7, -7, 100, 1234, -99999, 1234567, 10 ** 15 - 1, 10 ** 15, 12345678901234560,
                                  HIGHEST, LOWEST, HIGHEST - 1) for s in range(10)]
        for i, form in enumerate(FORMS[:168]):
            for case, answer in zip(cases, ask_many([number(i, n, s) for n, s in cases])):
                text = other_way.write_number(form, *case)
                self.assertEqual(answer, [1] if text is None else text_of(text), (form, case))
