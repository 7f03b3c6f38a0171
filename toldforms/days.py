"""Which dates there are, and the count of days from the first of January of the year 1."""

LAST_YEAR = 9999
LAST_DAY = 3652059
FEBRUARY = 2
MONTH_LENGTHS = (31, 28, 31, 30, 31, 30, 31, 31, 30, 31, 30, 31)


def is_leap(year):
    if year % 400 == 0:
        return True
    return year % 4 == 0 and year % 100 != 0


# How many days the month (1 to 12) of the year has.
def month_length(year, month):
    if month == FEBRUARY and is_leap(year):
        return 29
    return MONTH_LENGTHS[month - 1]


def is_date(year, month, day):
    if year < 1 or year > LAST_YEAR or month < 1 or month > 12:
        return False
    return 1 <= day <= month_length(year, month)


def days_before_year(year):
    past = year - 1
    return past * 365 + past // 4 - past // 100 + past // 400


def day_number(year, month, day):
    number = days_before_year(year) + day
    for earlier in range(1, month):
        number = number + month_length(year, earlier)
    return number


def is_day_number(number):
    return 1 <= number <= LAST_DAY


# The weekday of the day with this number, 0 for Monday.
def weekday(number):
    return (number - 1) % 7


# The date, as year, month and day, of a day from 1 to LAST_DAY.
def date_of_day(number):
    # No year has more than 366 days, so this year is never past the right one, and at most some twenty short of it.
    year = number // 366 + 1
    while days_before_year(year + 1) < number:
        year = year + 1
    day = number - days_before_year(year)
    month = 1
    while day > month_length(year, month):
        day = day - month_length(year, month)
        month = month + 1
    return (year, month, day)
