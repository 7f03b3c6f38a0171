"""The calls on one object, and their answers."""

from toldforms.date_form import DATE_KIND
from toldforms.days import date_of_day, day_number, is_date, is_day_number, weekday
from toldforms.examples import MOST_EXAMPLES, Example, fitting_pairs, fitting_targets, may_be_example
from toldforms.form_list import all_forms, converted
from toldforms.number_form import number_value

DONE = 0
NOT_POSSIBLE = 1
BAD_EXAMPLE = -1
NO_SUCH_FORM = -2
NO_SUCH_EXAMPLE = -2
NO_SUCH_VALUE = -3
TOO_MANY_EXAMPLES = -6
NO_SUCH_DAY = -7
NO_EXAMPLES = -8
MOST_TENS = 9


class Desk:
    def __init__(self):
        self.forms = all_forms()
        self.examples = []

    def has_form(self, number):
        return 0 <= number < len(self.forms)

    def has_example(self, number):
        return 0 <= number < len(self.examples)

    # Without examples every pair fits: these lists are then counted far sooner than the pairs are listed.
    def targets_that_fit(self):
        return fitting_targets(self.examples, len(self.forms))

    def pairs_that_fit(self):
        return fitting_pairs(self.examples, len(self.forms))

    # The text converted by a pair of forms' numbers; None if that isn't possible.
    def converted_by(self, pair, text):
        return converted(self.forms[pair[0]], self.forms[pair[1]], text)


# A list of calls, gone through from its beginning; it is only read.
class Line:
    def __init__(self, calls):
        self.calls = calls
        self.place = 0

    def at_end(self):
        return self.place >= len(self.calls)

    def take_number(self):
        number = self.calls[self.place]
        self.place = self.place + 1
        return number

    # The row that comes, behind how many numbers it has.
    def take_row(self):
        length = self.take_number()
        start = self.place
        self.place = start + length
        return self.calls[start:self.place]


def text_answer(text):
    if text is None:
        return [NOT_POSSIBLE]
    return [DONE] + text


def answer_form(desk, numbers, rows):
    if not desk.has_form(numbers[0]):
        return [NO_SUCH_FORM]
    return [DONE] + desk.forms[numbers[0]].told()


def answer_read(desk, numbers, rows):
    if not desk.has_form(numbers[0]):
        return [NO_SUCH_FORM]
    value = desk.forms[numbers[0]].value_read(rows[0])
    if value is None:
        return [NOT_POSSIBLE]
    return [DONE] + list(value)


def answer_number(desk, numbers, rows):
    if not desk.has_form(numbers[0]):
        return [NO_SUCH_FORM]
    if numbers[2] < 0 or numbers[2] > MOST_TENS:
        return [NO_SUCH_VALUE]
    return text_answer(desk.forms[numbers[0]].written(number_value(numbers[1], numbers[2])))


def answer_date(desk, numbers, rows):
    if not desk.has_form(numbers[0]):
        return [NO_SUCH_FORM]
    if not is_date(numbers[1], numbers[2], numbers[3]):
        return [NO_SUCH_VALUE]
    return text_answer(desk.forms[numbers[0]].written((DATE_KIND, numbers[1], numbers[2], numbers[3])))


def answer_convert(desk, numbers, rows):
    if not desk.has_form(numbers[0]) or not desk.has_form(numbers[1]):
        return [NO_SUCH_FORM]
    return text_answer(converted(desk.forms[numbers[0]], desk.forms[numbers[1]], rows[0]))


def answer_fits(desk, numbers, rows):
    answer = [DONE]
    for number, form in enumerate(desk.forms):
        if form.value_read(rows[0]) is not None:
            answer.append(number)
    return answer


def answer_day(desk, numbers, rows):
    if not is_date(numbers[0], numbers[1], numbers[2]):
        return [NO_SUCH_VALUE]
    number = day_number(numbers[0], numbers[1], numbers[2])
    return [DONE, number, weekday(number)]


def answer_dateof(desk, numbers, rows):
    if not is_day_number(numbers[0]):
        return [NO_SUCH_DAY]
    return [DONE] + list(date_of_day(numbers[0]))


def answer_shift(desk, numbers, rows):
    if not desk.has_form(numbers[0]):
        return [NO_SUCH_FORM]
    form = desk.forms[numbers[0]]
    value = form.value_read(rows[0])
    # A text that is no date has no day that could be out of range, so this comes ahead of that refusal.
    if value is None or value[0] != DATE_KIND:
        return [NOT_POSSIBLE]
    shifted = day_number(value[1], value[2], value[3]) + numbers[1]
    if not is_day_number(shifted):
        return [NO_SUCH_DAY]
    return text_answer(form.written((DATE_KIND,) + date_of_day(shifted)))


def answer_add(desk, numbers, rows):
    if not may_be_example(rows[0]) or not may_be_example(rows[1]):
        return [BAD_EXAMPLE]
    if len(desk.examples) >= MOST_EXAMPLES:
        return [TOO_MANY_EXAMPLES]
    desk.examples.append(Example(desk.forms, rows[0], rows[1]))
    return [DONE]


def answer_take(desk, numbers, rows):
    if not desk.has_example(numbers[0]):
        return [NO_SUCH_EXAMPLE]
    desk.examples.pop(numbers[0])
    return [DONE]


def answer_pairs(desk, numbers, rows):
    return [DONE, sum([len(targets) for targets in desk.targets_that_fit()])]


def answer_least(desk, numbers, rows):
    for source, targets in enumerate(desk.targets_that_fit()):
        if len(targets) > 0:
            return [DONE, source, targets[0]]
    return [NOT_POSSIBLE]


def answer_apply(desk, numbers, rows):
    if len(desk.examples) == 0:
        return [NO_EXAMPLES]
    for pair in desk.pairs_that_fit():
        text = desk.converted_by(pair, rows[0])
        if text is not None:
            return text_answer(text)
    return [NOT_POSSIBLE]


def answer_outputs(desk, numbers, rows):
    if len(desk.examples) == 0:
        return [NO_EXAMPLES]
    # A dict keeps the order in which its keys came: that of the first pairs that give them.
    pair_counts = {}
    for pair in desk.pairs_that_fit():
        text = desk.converted_by(pair, rows[0])
        if text is not None:
            pair_counts[tuple(text)] = pair_counts.get(tuple(text), 0) + 1
    answer = [len(pair_counts)]
    for signs, pair_count in pair_counts.items():
        answer.append(pair_count)
        answer.append(len(signs))
        answer.extend(signs)
    return answer


# By the calls' numbers: how many whole numbers a call has, how many rows, and what answers it.
CALLS = (
    (1, 0, answer_form),
    (1, 1, answer_read),
    (3, 0, answer_number),
    (4, 0, answer_date),
    (2, 1, answer_convert),
    (0, 1, answer_fits),
    (3, 0, answer_day),
    (1, 0, answer_dateof),
    (2, 1, answer_shift),
    (0, 2, answer_add),
    (1, 0, answer_take),
    (0, 0, answer_pairs),
    (0, 0, answer_least),
    (0, 1, answer_apply),
    (0, 1, answer_outputs),
)


def answer_call(desk, line):
    call = CALLS[line.take_number()]
    numbers = [line.take_number() for step in range(call[0])]
    rows = [line.take_row() for step in range(call[1])]
    answer = call[2]
    return answer(desk, numbers, rows)


# The answers to a list of calls on a new object, each behind how many numbers it has.
def answers(calls):
    desk = Desk()
    line = Line(calls)
    given = []
    while not line.at_end():
        answer = answer_call(desk, line)
        given.append(len(answer))
        given.extend(answer)
    return given
