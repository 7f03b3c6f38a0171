"""The list of forms, and converting from one form into another."""

from toldforms.date_form import DateForm
from toldforms.number_form import NumberForm

NONE = 0
POINT = 46
WIDTHS = (1, 2, 3, 4, 5, 6)
# None, the comma, the point, the blank.
GROUPS = (0, 44, 46, 32)
# The point, the comma.
MARKS = (46, 44)
DECIMALS = (1, 2, 3, 4)
ORDERS = (0, 1, 2)
# The point, the slash, the hyphen, the blank, none.
SEPARATORS = (46, 47, 45, 32, 0)
DAY_WAYS = (2, 1)
MONTH_WAYS = (2, 1, 3, 4)


def whole_forms():
    forms = []
    for width in WIDTHS:
        for group in GROUPS:
            forms.append(NumberForm(width, group, 0, POINT))
    return forms


def decimal_forms(decimals, mark):
    forms = []
    for width in WIDTHS:
        for group in GROUPS:
            if group != mark:
                forms.append(NumberForm(width, group, decimals, mark))
    return forms


def date_forms(order, separator):
    forms = []
    for day_way in DAY_WAYS:
        for month_way in MONTH_WAYS:
            # Without a separator, a day or a month of as many digits as needed could be read in two ways.
            if separator != NONE or (day_way != 1 and month_way != 1):
                forms.append(DateForm(order, separator, day_way, month_way))
    return forms


def all_forms():
    forms = whole_forms()
    for decimals in DECIMALS:
        for mark in MARKS:
            forms.extend(decimal_forms(decimals, mark))
    for order in ORDERS:
        for separator in SEPARATORS:
            forms.extend(date_forms(order, separator))
    return forms


# The text converted from the form source into the form target; None if that isn't possible.
def converted(source, target, text):
    value = source.value_read(text)
    if value is None:
        return None
    return target.written(value)
