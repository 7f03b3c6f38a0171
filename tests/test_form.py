"""Promise 1: form."""

import unittest

from tests import other_way
from tests.lines import HIGHEST, LOWEST, ask, ask_many, form


class FormTest(unittest.TestCase):
    def test_examples_of_the_document(self):
        self.assertEqual(ask(form(0)), [0, 0, 1, 0, 0, 46])
        self.assertEqual(ask(form(29)), [0, 0, 2, 32, 1, 46])
        self.assertEqual(ask(form(168)), [0, 1, 0, 46, 2, 2])
        self.assertEqual(ask(form(272)), [0, 1, 2, 0, 2, 4])
        self.assertEqual(ask(form(181)), [0, 1, 0, 47, 1, 1])

    def test_ends_of_the_parts_of_the_list(self):
        self.assertEqual(ask(form(23)), [0, 0, 6, 32, 0, 46])
        self.assertEqual(ask(form(24)), [0, 0, 1, 0, 1, 46])
        self.assertEqual(ask(form(167)), [0, 0, 6, 32, 4, 44])

    def test_the_mark_is_no_group_sign(self):
        self.assertEqual([ask(form(i))[3] for i in (24, 25, 26)], [0, 44, 32])
        self.assertEqual([ask(form(i))[3] for i in (42, 43, 44)], [0, 46, 32])

    def test_without_separator(self):
        self.assertEqual([ask(form(i)) for i in (200, 201, 202, 203)],
                         [[0, 1, 0, 0, 2, 2], [0, 1, 0, 0, 2, 3], [0, 1, 0, 0, 2, 4], [0, 1, 1, 46, 2, 2]])

    def test_every_form(self):
        expected = []
        for kind, first, sign, third, fourth in other_way.list_of_forms():
            sign = ord(sign) if sign else 0
            expected.append([0, 0, first, sign, third, ord(fourth)] if kind == "number"
                            else [0, 1, first, sign, third, fourth])
        self.assertEqual(len(expected), 273)
        self.assertEqual(ask_many([form(i) for i in range(273)]), expected)

    def test_no_such_form(self):
        for i in (-1, 273, 274, -273, LOWEST, HIGHEST):
            self.assertEqual(ask(form(i)), [-2], i)
