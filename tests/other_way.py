"""Forms, reading and writing by other means than the program's, to hold it against."""

import datetime
import re
from fractions import Fraction

NAMES = ("January February March April May June July August September October November December").split()


def list_of_forms():
    """The list of forms as the call form tells them, the separator and the signs as texts."""
    forms = [("number", w, g, 0, ".") for w in range(1, 7) for g in ("", ",", ".", " ")]
    forms += [("number", w, g, d, m) for d in range(1, 5) for m in ".," for w in range(1, 7)
              for g in ("", ",", ".", " ") if g != m]
    forms += [("date", o, p, dw, mw) for o in range(3) for p in (".", "/", "-", " ", "") for dw in (2, 1)
              for mw in (2, 1, 3, 4) if p or (dw == 2 and mw != 1)]
    return forms


def smallest(value):
    """A fraction with a power of ten below it, as n and s."""
    s = 0
    while (value * 10 ** s).denominator != 1:
        s += 1
    return int(value * 10 ** s), s


def read_number(form, text):
    width, group, decimals, mark = form[1:]
    whole = r"[0-9]{1,3}(?:" + re.escape(group) + r"[0-9]{3})*" if group else r"[0-9]+"
    rest = re.escape(mark) + "([0-9]{" + str(decimals) + "})" if decimals else "()"
    match = re.fullmatch("(-?)(" + whole + ")" + rest, text)
    if not match:
        return None
    digits = match[2].replace(group, "") if group else match[2]
    if len(digits) < width or len(digits) > 15 or (len(digits) > width and digits[0] == "0"):
        return None
    value = Fraction(int(digits + match[3]), 10 ** decimals)
    if match[1] and value == 0:
        return None
    return (0,) + smallest(-value if match[1] else value)


def read_date(form, text):
    order, separator, day_way, month_way = form[1:]
    short = "(?P<{}>[1-9][0-9]?)"
    two = "(?P<{}>[0-9]{{2}})"
    names = NAMES if month_way == 4 else [name[:3] for name in NAMES]
    d = (two if day_way == 2 else short).format("d")
    m = {1: short, 2: two}.get(month_way, "(?P<{}>" + "|".join(names) + ")").format("m")
    y = "(?P<y>[0-9]{4})"
    match = re.fullmatch(re.escape(separator).join([(d, m, y), (m, d, y), (y, m, d)][order]), text)
    if not match:
        return None
    month = names.index(match["m"]) + 1 if month_way > 2 else int(match["m"])
    try:
        datetime.date(int(match["y"]), month, int(match["d"]))
    except ValueError:
        return None
    return (1, int(match["y"]), month, int(match["d"]))


def read(form, text):
    """The value as which the text is read, as the call read tells it; None if it isn't."""
    return read_number(form, text) if form[0] == "number" else read_date(form, text)


def write_number(form, n, s):
    """The number n divided s times by 10, written in the form; None if it can't be."""
    if form[0] != "number":
        return None
    width, group, decimals, mark = form[1:]
    value = Fraction(abs(n), 10 ** s)
    scaled = value * 10 ** decimals
    if scaled.denominator != 1 or value >= 10 ** 15:
        return None
    digits = str(int(scaled) // 10 ** decimals).rjust(width, "0")
    backward = digits[::-1]
    if group:
        digits = group.join(backward[k:k + 3] for k in range(0, len(backward), 3))[::-1]
    rest = mark + str(int(scaled) % 10 ** decimals).rjust(decimals, "0") if decimals else ""
    return ("-" if n < 0 else "") + digits + rest


def write_date(form, year, month, day):
    """The date written in the form; None if that is a number form."""
    if form[0] != "date":
        return None
    order, separator, day_way, month_way = form[1:]
    d = f"{day:02d}" if day_way == 2 else str(day)
    m = {1: str(month), 2: f"{month:02d}", 3: NAMES[month - 1][:3], 4: NAMES[month - 1]}[month_way]
    y = f"{year:04d}"
    return separator.join([(d, m, y), (m, d, y), (y, m, d)][order])


def write(form, value):
    """A value, as the call read tells it, written in the form."""
    return write_number(form, *value[1:]) if value[0] == 0 else write_date(form, *value[1:])


FORMS = list_of_forms()


def convert(f, g, text):
    """The text converted from form f into form g; None if that isn't possible."""
    value = read(FORMS[f], text)
    return None if value is None else write(FORMS[g], value)


def pairs(examples):
    """All pairs of forms that fit, each of them tried."""
    found = []
    for f in range(len(FORMS)):
        if all(read(FORMS[f], source) is not None for source, target in examples):
            found += [(f, g) for g in range(len(FORMS))
                      if all(convert(f, g, source) == target for source, target in examples)]
    return found


def outputs(examples, text):
    """The texts that the text is converted to, with how many pairs give each."""
    counts = {}
    for f, g in pairs(examples):
        found = convert(f, g, text)
        if found is not None:
            counts[found] = counts.get(found, 0) + 1
    return counts
