"""The call 13, limit: the first open day from a year later on."""

import unittest
from datetime import date, timedelta

from tests.lines import D1, LineTest, closed, field, limit, paper, part, rest


def plus(start, count):
    moved = date(*start) + timedelta(count)
    return (moved.year, moved.month, moved.day)


class LimitTest(LineTest):
    def check(self, settings, filed, expected):
        with self.subTest(settings=settings, filed=filed):
            self.check_last([0, *expected], *settings, paper(1, 1, filed), limit(1))
            self.check_last([0, *expected], paper(1, 1, filed), limit(1), *settings, limit(1))

    def test_a_year_later(self):
        self.check([], (2020, 3, 2), (2021, 3, 2))
        self.check([], (2021, 1, 1), (2022, 1, 1))
        self.check([], (2020, 12, 31), (2021, 12, 31))
        self.check([], (1900, 1, 1), (1901, 1, 1))

    def test_a_year_later_than_the_end_of_february(self):
        self.check([], (2020, 2, 29), (2021, 2, 28))
        self.check([], (2020, 2, 28), (2021, 2, 28))
        self.check([], (2019, 2, 28), (2020, 2, 28))
        self.check([], (2022, 2, 28), (2023, 2, 28))
        self.check([], (2000, 2, 29), (2001, 2, 28))
        self.check([], (1999, 2, 28), (2000, 2, 28))
        self.check([], (2099, 2, 28), (2100, 2, 28))
        self.check([], (2096, 2, 29), (2097, 2, 28))
        self.check([], (2019, 3, 1), (2020, 3, 1))

    def test_closed_days_at_the_end_of_february(self):
        self.check([closed(2020, 2, 28)], (2019, 2, 28), (2020, 2, 29))
        self.check([closed(2021, 2, 28)], (2020, 2, 29), (2021, 3, 1))
        self.check([closed(2100, 2, 28)], (2099, 2, 28), (2100, 3, 1))

    def test_on_closed_days(self):
        self.check([closed(2021, 3, 2)], (2020, 3, 2), (2021, 3, 3))
        self.check([closed(2021, 3, 3), closed(2021, 3, 2)], (2020, 3, 2), (2021, 3, 4))
        self.check([closed(2021, 3, 3)], (2020, 3, 2), (2021, 3, 2))
        self.check([closed(2021, 3, 1)], (2020, 3, 2), (2021, 3, 2))
        self.check([closed(2020, 3, 2)], (2020, 3, 2), (2021, 3, 2))

    def test_on_days_of_rest(self):
        # 2 March 2021 was a Tuesday.
        self.check([rest(1)], (2020, 3, 2), (2021, 3, 3))
        self.check([rest(1, 2, 3)], (2020, 3, 2), (2021, 3, 5))
        self.check([rest(0, 2)], (2020, 3, 2), (2021, 3, 2))
        self.check([rest(1, 2, 3, 4, 5, 6)], (2020, 3, 2), (2021, 3, 8))
        self.check([rest(1), rest()], (2020, 3, 2), (2021, 3, 2))

    def test_on_days_of_rest_and_closed_days(self):
        # 6 March 2021 was a Saturday.
        self.check([rest(5, 6), closed(2021, 3, 8)], (2020, 3, 6), (2021, 3, 9))
        self.check([closed(2021, 3, 5), rest(5, 6)], (2020, 3, 5), (2021, 3, 8))
        self.check([closed(2021, 3, 6), rest(5, 6)], (2020, 3, 6), (2021, 3, 8))

    def test_behind_2199(self):
        # 1 January 2200 is a Wednesday.
        self.check([], (2199, 1, 1), (2200, 1, 1))
        self.check([], (2199, 12, 31), (2200, 12, 31))
        self.check([], (2199, 2, 28), (2200, 2, 28))
        self.check([rest(2)], (2199, 1, 1), (2200, 1, 2))
        self.check([rest(0, 1, 2, 3, 4, 5)], (2199, 1, 1), (2200, 1, 5))
        self.check([closed(2199, 12, 30), closed(2199, 12, 31)], (2198, 12, 30), (2200, 1, 1))
        # 28 February 2200 is a Friday, and the year is no leap year; 31 December 2200 is a Wednesday.
        self.check([rest(4)], (2199, 2, 28), (2200, 3, 1))
        self.check([rest(2)], (2199, 12, 31), (2201, 1, 1))

    def test_200_closed_days_in_a_row(self):
        days = [closed(*plus((2021, 3, 2), place)) for place in range(200)]
        self.check(days, (2020, 3, 2), plus((2021, 3, 2), 200))
        self.check(days[:-1], (2020, 3, 2), plus((2021, 3, 2), 199))

    def test_more_than_a_thousand_closed_days_in_a_row(self):
        days = [closed(*plus((2021, 3, 2), 7 * place)) for place in range(200)]
        resting = rest(0, 2, 3, 4, 5, 6)
        self.check([resting] + days, (2020, 3, 2), plus((2021, 3, 2), 1400))
        self.check(days[::-1] + [resting], (2020, 3, 2), plus((2021, 3, 2), 1400))
        self.check(days + [resting], (2020, 3, 3), plus((2021, 3, 2), 1400))
        self.check(days[:150] + days[151:] + [resting], (2020, 3, 2), plus((2021, 3, 2), 1050))

    def test_many_closed_days_that_reach_behind_2199(self):
        # Each Tuesday until the last day of 2199, which is one; the next is 7 January 2200.
        start = plus((2199, 12, 31), -7 * 199)
        filed = (start[0] - 1, start[1], start[2])
        days = [closed(*plus(start, 7 * place)) for place in range(200)]
        self.check(days + [rest(0, 2, 3, 4, 5, 6)], filed, (2200, 1, 7))

    def test_each_paper_has_its_own(self):
        known = [closed(2021, 3, 2), paper(1, 1, D1), paper(2, 1, (2020, 3, 3)), part(3, 1, (2020, 5, 5))]
        self.check_each(known, [
            (limit(1), [0, 2021, 3, 3]), (limit(2), [0, 2021, 3, 3]), (limit(3), [0, 2021, 5, 5]),
        ])

    def test_it_follows_what_becomes_known(self):
        known = [paper(1, 1, D1), limit(1), closed(2021, 3, 2), limit(1), rest(2)]
        self.check_last([0, 2021, 3, 4], *known, limit(1))
        self.check_last([0, 2021, 3, 2], *known, limit(1), field(2), paper(1, 1, D1), limit(1))

    def test_refusals(self):
        self.check_missing([paper(1, 1, D1)], limit)

    def test_asking_changes_nothing(self):
        self.check_asks_only(limit(2), limit(4), limit(777))


if __name__ == "__main__":
    unittest.main()
