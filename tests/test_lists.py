"""Lists of calls, and what is said over the whole of what is handed in and kept."""

import random
import unittest

from tests import other_way
from tests.lines import (HIGHEST, LOWEST, add, apply, ask_all, convert, date, dateof, day, fits, form, given,
                         joined, least, number, outputs, pairs, read, shift, take, text_of)
from toldforms.desk import CALLS, answers

# Every call once or more, as the document's examples have them, with refusals between.
TOLD = (
    (form(0), [0, 0, 1, 0, 0, 46]),
    (form(29), [0, 0, 2, 32, 1, 46]),
    (form(168), [0, 1, 0, 46, 2, 2]),
    (form(272), [0, 1, 2, 0, 2, 4]),
    (form(273), [-2]),
    (read(1, "1,234"), [0, 0, 1234, 0]),
    (read(0, "1,234"), [1]),
    (number(5, 7, 0), text_of("07")),
    (number(24, 75, 1), text_of("7.5")),
    (number(0, 75, 1), [1]),
    (number(0, 1, 10), [-3]),
    (fits("007"), [0, 8, 9, 10, 11]),
    (date(168, 2021, 3, 5), text_of("05.03.2021")),
    (convert(1, 0, "1,234"), text_of("1234")),
    (day(1, 1, 1), [0, 1, 0]),
    (dateof(3652059), [0, 9999, 12, 31]),
    (dateof(0), [-7]),
    (shift(168, -5, "05.03.2021"), text_of("28.02.2021")),
    (apply("12/11/1999"), [-8]),
    (outputs("4/5/2000"), [-8]),
    (add("5/3/2021", "2021-03-05"), [0]),
    (pairs(), [0, 1]),
    (least(), [0, 181, 254]),
    (apply("12/11/1999"), text_of("1999-11-12")),
    (apply("12/13/1999"), [1]),
    (take(1), [-2]),
    (take(0), [0]),
    (add("3/3/2021", "2021-03-03"), [0]),
    (add("3/3/2021", [31]), [-1]),
    (pairs(), [0, 2]),
    (outputs("4/5/2000"), [2] + given(1, "2000-05-04") + given(1, "2000-04-05")),
    (outputs(""), [0]),
    (read(0, ""), [1]),
)


class ListsTest(unittest.TestCase):
    def calls(self):
        return joined([call for call, answer in TOLD])

    def test_each_answer_behind_its_count(self):
        self.assertEqual({call[0] for call, answer in TOLD}, set(range(15)))
        self.assertEqual(answers(self.calls()), joined([[len(answer)] + answer for call, answer in TOLD]))

    def test_how_many_numbers_and_rows_each_call_has(self):
        self.assertEqual([call[:2] for call in CALLS], [(1, 0), (1, 1), (3, 0), (4, 0), (2, 1), (0, 1), (3, 0), (1, 0),
                                                        (2, 1), (0, 2), (1, 0), (0, 0), (0, 0), (0, 1), (0, 1)])

    def test_each_call_by_itself(self):
        told = ((form(0), [0, 0, 1, 0, 0, 46]), (read(0, "7"), [0, 0, 7, 0]), (number(0, 7, 0), [0, 55]),
                (date(0, 2021, 3, 5), [1]), (convert(0, 4, "7"), [0, 48, 55]), (fits("7"), [0, 0, 1, 2, 3]),
                (day(1, 1, 2), [0, 2, 1]), (dateof(2), [0, 1, 1, 2]), (shift(0, 1, "7"), [1]), (add("", ""), [0]),
                (take(0), [-2]), (pairs(), [0, 74529]), (least(), [0, 0, 0]), (apply("7"), [-8]), (outputs("7"), [-8]))
        self.assertEqual([call[0] for call, answer in told], list(range(15)))
        for call, answer in told:
            self.assertEqual(answers(call), [len(answer)] + answer)

    def test_empty_rows_between_others(self):
        self.assertEqual(answers([1, 0, 0, 5, 0, 4, 0, 0, 1, 55]), [1, 1, 1, 0, 2, 0, 55])
        self.assertEqual(answers([9, 0, 0, 9, 0, 1, 55, 9, 1, 55, 0, 8, 168, 0, 0, 13, 0, 14, 0, 10, 2, 10, 2]),
                         [1, 0, 1, 0, 1, 0, 1, 1, 1, 1, 1, 0, 1, 0, 1, -2])

    def test_ninety_calls(self):
        self.assertEqual(answers(dateof(1) * 90), [4, 0, 1, 1, 1] * 90)
        self.assertEqual(answers(pairs() * 90), [2, 0, 74529] * 90)
        self.assertEqual(ask_all([add("7", "7"), take(0), least()] * 30), [[0], [0], [0, 0, 0]] * 30)
        calls = [add("3/3/2021", "2021-03-03")] * 10 + [outputs("4/5/2000"), apply("4/5/2000")] * 40
        both = [2] + given(1, "2000-05-04") + given(1, "2000-04-05")
        self.assertEqual(ask_all(calls), [[0]] * 10 + [both, text_of("2000-05-04")] * 40)

    def test_ninety_calls_of_every_kind(self):
        told = (list(TOLD) + [(take(0), [0])]) * 3
        told = told[:90]
        self.assertEqual(len(told), 90)
        self.assertEqual(ask_all([call for call, answer in told]), [answer for call, answer in told])

    def test_a_list_as_long_as_may_be(self):
        calls = fits([48] * 10000) + read(0, [49] * 5990) + form(0)
        self.assertLessEqual(len(calls), 16000)
        self.assertEqual(answers(calls), [1, 0, 1, 1, 6, 0, 0, 1, 0, 0, 46])
        calls = add([49] * 10000, [50] * 5985) + shift(168, 1, "") + pairs()
        self.assertLessEqual(len(calls), 16000)
        self.assertEqual(answers(calls), [1, -1, 1, 1, 2, 0, 74529])

    def test_the_list_stays_as_it_was(self):
        calls = self.calls()
        copy = list(calls)
        answers(calls)
        self.assertEqual(calls, copy)

    def test_the_list_is_not_changed_for_a_while_either(self):
        self.assertEqual(answers(OnlyRead(self.calls())), answers(self.calls()))

    def test_nothing_is_kept(self):
        calls = self.calls()
        first = answers(calls)
        self.assertEqual(answers(calls), first)
        answers(add("7", "8"))
        self.assertEqual(ask_all([outputs("7"), apply("7"), pairs(), least(), take(0)]),
                         [[-8], [-8], [0, 74529], [0, 0, 0], [-2]])
        answers(add("7", "7") * 10)
        self.assertEqual(answers(add("7", "7")), [1, 0])

    def test_what_is_given_back_is_free_to_change(self):
        calls = self.calls()
        first = answers(calls)
        copy = list(first)
        first.clear()
        self.assertEqual(answers(calls), copy)

    def test_whole_numbers_alone(self):
        self.assertEqual({type(part) for part in answers(self.calls())}, {int})
        self.assertIs(type(answers([5, 0])), list)


class OnlyRead(list):
    """A list that can't be changed."""

    def refuse(self, *parts, **named):
        raise AssertionError("what is handed in was changed")

    append = clear = extend = insert = pop = remove = reverse = sort = refuse
    __setitem__ = __delitem__ = __iadd__ = __imul__ = refuse


class Model:
    """The calls on examples by other means, to hold the program against."""

    def __init__(self):
        self.examples = []

    def answer(self, name, *given_to_it):
        return getattr(self, name)(*given_to_it)

    def add(self, source, target):
        if any(len(text) > 40 or any(not " " <= sign <= "~" for sign in text) for text in (source, target)):
            return [-1]
        if len(self.examples) == 10:
            return [-6]
        self.examples.append((source, target))
        return [0]

    def take(self, i):
        if i not in range(len(self.examples)):
            return [-2]
        self.examples = self.examples[:i] + self.examples[i + 1:]
        return [0]

    def pairs(self):
        return [0, len(other_way.pairs(self.examples)) if self.examples else 273 * 273]

    def least(self):
        known = other_way.pairs(self.examples) if self.examples else [(0, 0)]
        return [0] + list(known[0]) if known else [1]

    def apply(self, text):
        if not self.examples:
            return [-8]
        counts = other_way.outputs(self.examples, text)
        return text_of(list(counts)[0]) if counts else [1]

    def outputs(self, text):
        if not self.examples:
            return [-8]
        counts = other_way.outputs(self.examples, text)
        return [len(counts)] + [part for found, count in counts.items() for part in given(count, found)]


class ManyListsTest(unittest.TestCase):
    CALLS = {"add": add, "take": take, "pairs": pairs, "least": least, "apply": apply, "outputs": outputs}

    def value(self, source):
        if source.random() < 0.5:
            return (1, source.choice((1, 999, 1999, 2021)), source.choice((1, 3, 5, 10, 12)),
                    source.choice((1, 5, 10, 12, 25)))
        return (0,) + source.choice(((0, 0), (7, 0), (100, 0), (1234, 0), (-1234567, 0), (15, 1), (-5, 3), (1234, 3)))

    def texts(self, source, f, g):
        """A value's texts in two forms, or something near to that."""
        value = self.value(source)
        found = [other_way.write(other_way.FORMS[number], value) or "7" for number in (f, g)]
        if source.random() < 0.1:
            found[source.randrange(2)] = source.choice(("", "no", "7" * 41, "\t", "-0"))
        return found

    def some_calls(self, source):
        """Names of calls with what they're given, most of the examples by one pair of forms."""
        kind = source.choice((range(24), range(24, 168), range(168), range(168, 273)))
        f, g = source.choice(kind), source.choice(kind)
        calls = []
        for step in range(source.randrange(4, 25)):
            name = source.choice(("add", "add", "take", "pairs", "least", "apply", "outputs"))
            source_text, target_text = self.texts(source, f, g)
            parts = {"add": (source_text, target_text), "take": (source.choice((0, 0, 1, 2, -1, LOWEST, HIGHEST)),),
                     "apply": (source_text,), "outputs": (source_text,)}
            calls.append((name,) + parts.get(name, ()))
        return calls

    def test_against_a_model(self):
        source = random.Random(15)
        for turn in range(60):
            calls = self.some_calls(source)
            model = Model()
            expected = [model.answer(*call) for call in calls]
            found = ask_all([self.CALLS[call[0]](*call[1:]) for call in calls])
            for call, one, other in zip(calls, found, expected, strict=True):
                self.assertEqual(one, other, (call, calls))
