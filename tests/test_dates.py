"""The calendar, day by day beside Python's own."""

import unittest
from datetime import date, timedelta

from prioritybook.dates import day_after, is_date, is_leap_year, month_length, weekday, year_later
from tests.lines import BAD_DATES, GOOD_DATES


class CalendarTest(unittest.TestCase):
    def test_each_day_from_1900_into_2201(self):
        told = (1900, 1, 1)
        today = date(1900, 1, 1)
        while today.year < 2202:
            self.assertEqual((today.year, today.month, today.day), told)
            self.assertEqual(weekday(told), today.weekday())
            self.assertEqual(is_date(told), today.year < 2200)
            told = day_after(told)
            today += timedelta(1)

    def test_dates_and_what_is_none(self):
        for told in GOOD_DATES:
            self.assertTrue(is_date(told), told)
        for told in BAD_DATES:
            self.assertFalse(is_date(told), told)

    def test_leap_years(self):
        leaps = [year for year in (1900, 1904, 2000, 2023, 2024, 2100, 2196, 2200) if is_leap_year(year)]
        self.assertEqual(leaps, [1904, 2000, 2024, 2196])

    def test_lengths_of_months(self):
        lengths = [month_length(2023, month) for month in range(1, 13)]
        self.assertEqual(lengths, [31, 28, 31, 30, 31, 30, 31, 31, 30, 31, 30, 31])
        self.assertEqual(month_length(2024, 2), 29)

    def test_a_year_later(self):
        self.assertEqual(year_later((2020, 2, 29)), (2021, 2, 28))
        self.assertEqual(year_later((2019, 2, 28)), (2020, 2, 28))
        self.assertEqual(year_later((2023, 12, 31)), (2024, 12, 31))
        self.assertEqual(year_later((2199, 12, 31)), (2200, 12, 31))


if __name__ == "__main__":
    unittest.main()
