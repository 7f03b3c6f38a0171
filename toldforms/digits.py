"""Whole numbers from 0 on as decimal digits, and back."""

ZERO = 48
NINE = 57


# The bytes of the number's digits, with zeros ahead for at least width of them.
def decimal_digits(number, width):
    return [ord(sign) for sign in str(number).zfill(width)]


# The number told by the digits of the text; all its other bytes are passed over.
def number_of_digits(text):
    number = 0
    for sign in text:
        if ZERO <= sign <= NINE:
            number = number * 10 + sign - ZERO
    return number


def times_ten(number, times):
    for step in range(times):
        number = number * 10
    return number
