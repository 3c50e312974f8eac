"""The calls 0 to 2: field, rest, closed; and the limits that rest and closed days make."""

import unittest
from datetime import date, timedelta

from tests.lines import (
    BAD_DATES, GOOD_DATES, LEAST, MOST, OK, LineTest, closed, day, field, hand, last, name, paper, rest, run,
)

D1 = (2020, 3, 2)


def plus(start, days):
    moved = date(*start) + timedelta(days)
    return (moved.year, moved.month, moved.day)


def is_given(settings, filed, naming):
    """Whether a paper of the date naming gets the date of one that was filed earlier."""
    found = last(*settings, paper(1, 1, filed), paper(2, 1, naming), name(2, 1), day(2))
    if found == [0, *filed, 1]:
        return True
    if found == [0, *naming, 2]:
        return False
    raise AssertionError(found)


class FieldTest(LineTest):
    def test_forms(self):
        self.check_each([], [
            (field(1), OK), (field(8), OK), (field(1, 1, 1, 1, 1, 1), OK), (field(8, 8, 8, 8, 8, 8), OK),
            (field(1, 2, 3, 4, 5, 6), OK), (field(7, 8), OK),
            (field(), [-4]), (field(1, 1, 1, 1, 1, 1, 1), [-4]), (field(0), [-4]), (field(9), [-4]),
            (field(2, 0), [-4]), (field(9, 2), [-4]), (field(2, 2, 2, 2, 2, 9), [-4]), (field(-1), [-4]),
            (field(LEAST), [-4]), (field(MOST), [-4]), (field(*[2] * 80), [-4]),
        ])

    def test_leaves_bound_the_numbers_of_boxes(self):
        for leaves in range(1, 9):
            most = 2 ** leaves - 1
            self.check_each([field(leaves)], [
                (paper(1, 1, D1, (1,)), [1]), (paper(1, 1, D1, (most,)), [1]), (paper(1, 1, D1, (0,)), [-4]),
                (paper(1, 1, D1, (-1,)), [-4]), (paper(1, 1, D1, (most + 1,)), [-4]),
            ])

    def test_each_feature_has_leaves_of_its_own(self):
        self.check_each([field(1, 3, 2)], [
            (paper(1, 1, D1, (1, 7, 3)), [1]), (paper(1, 1, D1, (2, 1, 1)), [-4]),
            (paper(1, 1, D1, (1, 8, 1)), [-4]), (paper(1, 1, D1, (1, 1, 4)), [-4]),
        ])

    def test_papers_and_deeds_are_gone(self):
        known = [paper(1, 1, D1), paper(2, 1, D1), name(2, 1), hand(1, 1, 1, 2, D1), field(2)]
        self.check_each(known, [(day(1), [-5]), (name(2, 1), [-5]), (paper(1, 1, D1), [1])])
        self.check_each(known + [paper(1, 1, D1)], [(hand(1, 1, 1, 2, D1), OK)])

    def test_days_of_rest_and_closed_days_are_gone(self):
        # 2 March 2021 was a Tuesday.
        for setting in (rest(1), closed(2021, 3, 2)):
            with self.subTest(setting=setting):
                self.assertTrue(is_given([setting], (2020, 3, 2), (2021, 3, 3)))
                self.assertFalse(is_given([setting, field(2)], (2020, 3, 2), (2021, 3, 3)))

    def test_closed_days_may_be_told_anew(self):
        days = [closed(*plus((2021, 1, 1), place)) for place in range(200)]
        self.assertEqual(run(days + [closed(2030, 1, 1)])[-1], [-9])
        self.assertEqual(run(days + [field(2), closed(2030, 1, 1)])[-1], OK)

    def test_a_refused_field_changes_nothing(self):
        known = [field(3, 3), rest(1), closed(2021, 3, 3), paper(1, 1, (2020, 3, 2), (7, 7)),
                 paper(2, 1, (2021, 3, 4), (7, 7)), name(2, 1), hand(1, 1, 2, 3, D1)]
        refused = [field(), field(0), field(9), field(1, 1, 1, 1, 1, 1, 1)]
        asked = [day(2, (7, 7)), day(1, (7, 7)), hand(1, 1, 2, 3, D1), paper(3, 1, D1, (7, 7))]
        self.check_unchanged(known, refused, asked)


class RestTest(LineTest):
    def test_forms(self):
        self.check_each([], [
            (rest(), OK), (rest(0), OK), (rest(6), OK), (rest(5, 6), OK), (rest(0, 1, 2, 3, 4, 5), OK),
            (rest(3, 3, 3, 3, 3, 3), OK), (rest(6, 0, 6, 0), OK),
            (rest(-1), [-4]), (rest(7), [-4]), (rest(0, 7), [-4]), (rest(0, 1, 2, 3, 4, 5, 6), [-4]),
            (rest(1, 1, 1, 1, 1, 1, 1), [-4]), (rest(LEAST), [-4]), (rest(MOST), [-4]), (rest(*[0] * 80), [-4]),
        ])

    def test_each_weekday(self):
        for monday in ((1906, 1, 1), (2000, 10, 16), (2021, 1, 4), (2100, 3, 1), (2199, 12, 2)):
            self.assertEqual(date(*monday).weekday(), 0)
            for weekday in range(7):
                year, month, number = plus(monday, weekday)
                behind = plus((year, month, number), 1)
                for resting in range(7):
                    with self.subTest(monday=monday, weekday=weekday, resting=resting):
                        found = is_given([rest(resting)], (year - 1, month, number), behind)
                        self.assertEqual(found, resting == weekday)

    def test_six_different_days_of_rest(self):
        # 2 March 2021 was a Tuesday; the one weekday that isn't a day of rest comes six days later at the most.
        filed = (2020, 3, 2)
        for working in range(7):
            resting = [weekday for weekday in range(7) if weekday != working]
            later = (working - 1) % 7
            with self.subTest(working=working):
                self.assertTrue(is_given([rest(*resting)], filed, plus((2021, 3, 2), later)))
                self.assertFalse(is_given([rest(*resting)], filed, plus((2021, 3, 2), later + 1)))

    def test_days_of_rest_that_are_alike(self):
        self.assertTrue(is_given([rest(1, 1, 2, 2, 1, 1)], (2020, 3, 2), (2021, 3, 4)))
        self.assertFalse(is_given([rest(1, 1, 2, 2, 1, 1)], (2020, 3, 2), (2021, 3, 5)))

    def test_they_take_the_place_of_those_before(self):
        self.assertFalse(is_given([rest(1), rest(2)], (2020, 3, 2), (2021, 3, 3)))
        self.assertFalse(is_given([rest(1), rest()], (2020, 3, 2), (2021, 3, 3)))

    def test_they_count_for_papers_that_are_known_already(self):
        known = [paper(1, 1, (2020, 3, 2)), paper(2, 1, (2021, 3, 3)), name(2, 1)]
        self.check_last([0, 2021, 3, 3, 2], *known, day(2))
        self.check_last([0, 2020, 3, 2, 1], *known, rest(1), day(2))

    def test_a_refused_rest_changes_nothing(self):
        known = [rest(1), paper(1, 1, (2020, 3, 2)), paper(2, 1, (2021, 3, 3)), name(2, 1), paper(3, 1, (2021, 3, 4)),
                 name(3, 1)]
        refused = [rest(7), rest(2, -1), rest(0, 1, 2, 3, 4, 5, 6), rest(2, 2, 2, 2, 2, 2, 2)]
        self.check_unchanged(known, refused, [day(2), day(3)])


class ClosedTest(LineTest):
    def test_dates(self):
        self.check_each([], [(closed(*told), OK) for told in GOOD_DATES])
        self.check_each([], [(closed(*told), [-2]) for told in BAD_DATES])

    def test_200_days_and_one_told_again(self):
        told = [plus((2020, 1, 1), place) for place in range(200)]
        known = [closed(*each) for each in told]
        self.check_each(known, [
            (closed(*told[0]), OK), (closed(*told[199]), OK), (closed(*plus(told[199], 1)), [-9]),
            (closed(2100, 1, 1), [-9]), (closed(2100, 2, 29), [-2]),
        ])
        self.check_each(known[:199], [(closed(2100, 1, 1), OK)])
        self.check_each(known[:199] + [closed(*told[0])] * 3, [(closed(2100, 1, 1), OK)])

    def test_a_closed_day_that_is_a_day_of_rest_counts_too(self):
        told = [closed(*plus((2020, 1, 1), 7 * place)) for place in range(200)]
        self.check_last([-9], rest(2), *told, closed(2100, 1, 1))

    def test_a_refused_day_stays_as_it_was(self):
        told = [closed(*plus((2010, 1, 1), place)) for place in range(200)]
        known = told + [paper(1, 1, (2020, 3, 2)), paper(2, 1, (2021, 3, 3)), name(2, 1)]
        self.check_unchanged(known, [closed(2021, 3, 2), closed(2021, 2, 29)], [day(2), closed(2021, 3, 2)])

    def test_they_count_for_papers_that_are_known_already(self):
        known = [paper(1, 1, (2020, 3, 2)), paper(2, 1, (2021, 3, 3)), name(2, 1)]
        self.check_last([0, 2020, 3, 2, 1], *known, closed(2021, 3, 2), day(2))


class LimitTest(LineTest):
    def check_limit(self, settings, filed, limit):
        with self.subTest(settings=settings, filed=filed):
            self.assertTrue(is_given(settings, filed, limit))
            self.assertFalse(is_given(settings, filed, plus(limit, 1)))

    def test_a_year_later(self):
        self.check_limit([], (2020, 3, 2), (2021, 3, 2))
        self.check_limit([], (2020, 12, 31), (2021, 12, 31))
        self.check_limit([], (2021, 1, 1), (2022, 1, 1))
        self.check_limit([], (1900, 1, 1), (1901, 1, 1))
        self.check_limit([], (2198, 12, 30), (2199, 12, 30))

    def test_the_end_of_february(self):
        self.check_limit([], (2020, 2, 29), (2021, 2, 28))
        self.check_limit([], (2020, 2, 28), (2021, 2, 28))
        self.check_limit([], (2019, 2, 28), (2020, 2, 28))
        self.check_limit([], (2022, 2, 28), (2023, 2, 28))
        self.check_limit([], (2019, 3, 1), (2020, 3, 1))
        self.check_limit([], (1900, 2, 28), (1901, 2, 28))
        self.check_limit([], (1999, 2, 28), (2000, 2, 28))
        self.check_limit([], (2000, 2, 29), (2001, 2, 28))
        self.check_limit([], (2099, 2, 28), (2100, 2, 28))
        self.check_limit([], (2100, 2, 28), (2101, 2, 28))

    def test_closed_days_over_the_end_of_february(self):
        self.check_limit([closed(2020, 2, 28)], (2019, 2, 28), (2020, 2, 29))
        self.check_limit([closed(2020, 2, 28), closed(2020, 2, 29)], (2019, 2, 28), (2020, 3, 1))
        self.check_limit([closed(2000, 2, 28)], (1999, 2, 28), (2000, 2, 29))
        self.check_limit([closed(2100, 2, 28)], (2099, 2, 28), (2100, 3, 1))
        self.check_limit([closed(2021, 2, 28)], (2020, 2, 29), (2021, 3, 1))

    def test_closed_days_over_the_ends_of_months_and_years(self):
        for month, length in enumerate((31, 28, 31, 30, 31, 30, 31, 31, 30, 31, 30, 31), start=1):
            end = (2021, month, length)
            self.check_limit([closed(*end)], (2020, month, length), plus(end, 1))
        self.check_limit([closed(2021, 12, 30), closed(2021, 12, 31), closed(2022, 1, 1)], (2020, 12, 30), (2022, 1, 2))

    def test_one_and_several_closed_days_in_a_row(self):
        self.check_limit([closed(2021, 3, 2)], (2020, 3, 2), (2021, 3, 3))
        self.check_limit([closed(2021, 3, 2), closed(2021, 3, 3), closed(2021, 3, 4)], (2020, 3, 2), (2021, 3, 5))
        self.check_limit([closed(2021, 3, 2), closed(2021, 3, 4)], (2020, 3, 2), (2021, 3, 3))
        self.check_limit([closed(2021, 3, 1)], (2020, 3, 2), (2021, 3, 2))
        self.check_limit([closed(2021, 3, 3)], (2020, 3, 2), (2021, 3, 2))

    def test_200_closed_days_in_a_row(self):
        told = [closed(*plus((2021, 3, 2), place)) for place in range(200)]
        self.check_limit(told, (2020, 3, 2), plus((2021, 3, 2), 200))

    def test_200_closed_days_among_six_days_of_rest(self):
        told = [closed(*plus((2021, 3, 2), 7 * place)) for place in range(200)]
        self.check_limit(told + [rest(0, 2, 3, 4, 5, 6)], (2020, 3, 2), plus((2021, 3, 2), 1400))

    def test_days_of_rest_and_closed_days_mixed(self):
        # 6 March 2021 was a Saturday.
        self.check_limit([rest(5, 6)], (2020, 3, 6), (2021, 3, 8))
        self.check_limit([rest(5, 6), closed(2021, 3, 8)], (2020, 3, 6), (2021, 3, 9))
        self.check_limit([rest(5, 6), closed(2021, 3, 5)], (2020, 3, 5), (2021, 3, 8))
        self.check_limit([rest(6)], (2020, 3, 6), (2021, 3, 6))

    def test_a_day_of_rest_at_the_ends_of_centuries(self):
        # 1 January 1901 was a Tuesday, 1 January 2000 a Saturday, 1 March 2100 a Monday.
        self.check_limit([rest(1)], (1900, 1, 1), (1901, 1, 2))
        self.check_limit([rest(5, 6)], (1999, 1, 1), (2000, 1, 3))
        self.check_limit([rest(0)], (2099, 3, 1), (2100, 3, 2))
        self.check_limit([rest(6)], (2099, 2, 28), (2100, 3, 1))

    def test_behind_2199(self):
        end = (2199, 12, 31)
        self.assertTrue(is_given([], (2199, 1, 1), end))
        self.assertTrue(is_given([closed(*end)], (2198, 12, 31), end))
        self.assertTrue(is_given([closed(2199, 12, 30), closed(*end)], (2198, 12, 30), end))
        self.assertFalse(is_given([closed(*end)], (2198, 12, 30), end))
        # 27 December 2199 is a Friday: the next Tuesday is the 31st, the next Thursday is in 2200.
        self.assertTrue(is_given([rest(0, 2, 3, 4, 5, 6)], (2198, 12, 27), end))
        self.assertTrue(is_given([rest(0, 1, 2, 4, 5, 6)], (2198, 12, 27), end))
        self.assertTrue(is_given([rest(0, 2, 3, 4, 5, 6), closed(*end)], (2198, 12, 27), end))
        self.assertFalse(is_given([rest(1, 2, 3, 4, 5, 6)], (2198, 12, 27), end))


if __name__ == "__main__":
    unittest.main()
