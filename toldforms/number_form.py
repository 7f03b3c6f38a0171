"""Number forms: a width, a group sign, decimals and a mark.

A number as a value is the tuple (NUMBER_KIND, n, s): n divided s times by 10, with s as small as it can be.
"""

from toldforms.digits import decimal_digits, number_of_digits, times_ten

NUMBER_KIND = 0
MINUS = 45
MOST_WHOLE_DIGITS = 15
# The minus, 15 digits with 4 group signs, the mark and 4 decimals.
LONGEST_NUMBER = 25


def number_value(n, s):
    while s > 0 and n % 10 == 0:
        n = n // 10
        s = s - 1
    return (NUMBER_KIND, n, s)


# The digits with the group sign (0 for none) ahead of each three from the end, where a digit is ahead of them.
def grouped(digits, group):
    if group == 0:
        return digits
    text = []
    for place, digit in enumerate(digits):
        if place > 0 and (len(digits) - place) % 3 == 0:
            text.append(group)
        text.append(digit)
    return text


class NumberForm:
    def __init__(self, width, group, decimals, mark):
        self.width = width
        self.group = group
        self.decimals = decimals
        self.mark = mark

    def told(self):
        return [NUMBER_KIND, self.width, self.group, self.decimals, self.mark]

    # The text of the value; None if it can't be written in this form.
    def written(self, value):
        if value[0] != NUMBER_KIND or value[2] > self.decimals:
            return None
        scaled = times_ten(abs(value[1]), self.decimals - value[2])
        digits = decimal_digits(scaled, self.width + self.decimals)
        whole_length = len(digits) - self.decimals
        if whole_length > MOST_WHOLE_DIGITS:
            return None
        text = [MINUS] if value[1] < 0 else []
        text.extend(grouped(digits[:whole_length], self.group))
        if self.decimals > 0:
            text.append(self.mark)
            text.extend(digits[whole_length:])
        return text

    # The value as which the text is read; None if it isn't.
    def value_read(self, text):
        if len(text) > LONGEST_NUMBER:
            return None
        n = number_of_digits(text)
        if text[:1] == [MINUS]:
            n = -n
        # Only this value can have these digits; whether all else is at its place, writing it tells.
        value = number_value(n, self.decimals)
        if self.written(value) != text:
            return None
        return value
