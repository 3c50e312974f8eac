"""Dates by the calendar in use, each a tuple (year, month, day), so that earlier ones compare as less."""

FIRST_YEAR = 1900
LAST_YEAR = 2199


def is_leap_year(year):
    return year % 4 == 0 and (year % 100 != 0 or year % 400 == 0)


def month_length(year, month):
    if month == 2:
        return 29 if is_leap_year(year) else 28
    return 30 if month in (4, 6, 9, 11) else 31


def is_date(date):
    if not FIRST_YEAR <= date[0] <= LAST_YEAR:
        return False
    if not 1 <= date[1] <= 12:
        return False
    return 1 <= date[2] <= month_length(date[0], date[1])


def weekday(date):
    """0 for a Monday to 6 for a Sunday."""
    # Counted from 1 January of the year 1: carried back, the calendar has a Monday there as on 1 January 1900.
    past = date[0] - 1
    days = 365 * past + past // 4 - past // 100 + past // 400
    for month in range(1, date[1]):
        days += month_length(date[0], month)
    return (days + date[2] - 1) % 7


def day_after(date):
    if date[2] < month_length(date[0], date[1]):
        return (date[0], date[1], date[2] + 1)
    if date[1] < 12:
        return (date[0], date[1] + 1, 1)
    return (date[0] + 1, 1, 1)


def year_later(date):
    year = date[0] + 1
    return (year, date[1], min(date[2], month_length(year, date[1])))
