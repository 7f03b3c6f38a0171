"""Date forms: an order, a separator, a way of the day and a way of the month.

A date as a value is the tuple (DATE_KIND, year, month, day).
"""

from toldforms.days import is_date
from toldforms.digits import decimal_digits, number_of_digits

DATE_KIND = 1
# The places of a date's parts in its value.
YEAR = 1
MONTH = 2
DAY = 3
# By the orders' numbers: these places, as they come in a text.
PART_ORDERS = ((3, 2, 1), (2, 3, 1), (1, 2, 3))
YEAR_DIGITS = 4
TWO_DIGITS = 2
FIRST_LETTERS = 3
MONTH_NAMES = ("January", "February", "March", "April", "May", "June", "July", "August", "September", "October",
               "November", "December")
# Two digits, a separator, September, a separator and four digits.
LONGEST_DATE = 17


# The parts of the text between the separators, empty ones too.
def split_at(text, separator):
    parts = []
    start = 0
    for place, sign in enumerate(text):
        if sign == separator:
            parts.append(text[start:place])
            start = place + 1
    parts.append(text[start:])
    return parts


class DateForm:
    def __init__(self, order, separator, day_way, month_way):
        self.order = order
        self.separator = separator
        self.day_way = day_way
        self.month_way = month_way

    def told(self):
        return [DATE_KIND, self.order, self.separator, self.day_way, self.month_way]

    def month_written(self, month):
        if self.month_way <= TWO_DIGITS:
            return decimal_digits(month, self.month_way)
        name = MONTH_NAMES[month - 1]
        if self.month_way == FIRST_LETTERS:
            name = name[:3]
        return [ord(letter) for letter in name]

    def part_written(self, part, number):
        if part == YEAR:
            return decimal_digits(number, YEAR_DIGITS)
        if part == DAY:
            return decimal_digits(number, self.day_way)
        return self.month_written(number)

    # The text of the value; None if it can't be written in this form.
    def written(self, value):
        if value[0] != DATE_KIND:
            return None
        text = []
        for place, part in enumerate(PART_ORDERS[self.order]):
            if place > 0 and self.separator != 0:
                text.append(self.separator)
            text.extend(self.part_written(part, value[part]))
        return text

    # The three parts of a text without separators: the year and the day have their lengths, the month the rest.
    def parts_by_length(self, text):
        month_signs = max(0, len(text) - YEAR_DIGITS - TWO_DIGITS)
        lengths = {YEAR: YEAR_DIGITS, MONTH: month_signs, DAY: TWO_DIGITS}
        parts = []
        start = 0
        for part in PART_ORDERS[self.order]:
            parts.append(text[start:start + lengths[part]])
            start = start + lengths[part]
        return parts

    # The parts of the text, in its order; other than three if it has too many or too few.
    def parts_of(self, text):
        if self.separator == 0:
            return self.parts_by_length(text)
        return split_at(text, self.separator)

    # The number that one part of a date would stand for; 0 for what is no month's name.
    def part_read(self, part, text):
        if part != MONTH or self.month_way <= TWO_DIGITS:
            return number_of_digits(text)
        for month in range(1, 13):
            if self.month_written(month) == text:
                return month
        return 0

    # The value as which the text is read; None if it isn't.
    def value_read(self, text):
        if len(text) > LONGEST_DATE:
            return None
        parts = self.parts_of(text)
        if len(parts) != 3:
            return None
        found = {}
        for part, part_text in zip(PART_ORDERS[self.order], parts):
            found[part] = self.part_read(part, part_text)
        if not is_date(found[YEAR], found[MONTH], found[DAY]):
            return None
        # Only this value can have these parts; whether all else is at its place, writing it tells.
        value = (DATE_KIND, found[YEAR], found[MONTH], found[DAY])
        if self.written(value) != text:
            return None
        return value
