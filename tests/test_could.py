"""The call 19, could: the day that a box would have in a paper that isn't filed."""

import unittest

from tests.lines import (
    D0, D1, D2, LineTest, closed, could, day, field, hand, name, paper, part, publish, rest, run, told, withdraw,
)

LIMIT = (2021, 3, 2)
LATE = (2021, 3, 3)
LATER = (2021, 3, 4)


class CouldTest(LineTest):
    def test_from_itself(self):
        self.check_last([0, *D2, 0], could(1, D2))
        self.check_last([0, *D2, 0], paper(1, 2, D1), could(1, D2))
        self.check_last([0, *D0, 0], paper(1, 1, D1), could(1, D0))

    def test_from_an_older_paper(self):
        self.check_last([0, *D1, 7], paper(7, 1, D1), could(1, D2))
        self.check_last([0, *D1, 7], paper(7, 1, D1), could(1, (2020, 3, 3)))

    def test_a_paper_of_that_very_date(self):
        self.check_last([0, *D1, 0], paper(7, 1, D1), could(1, D1))
        self.check_last([0, *D0, 6], paper(6, 1, D0), paper(7, 1, D1), could(1, D1))

    def test_a_paper_of_a_later_date(self):
        self.check_last([0, *D1, 0], paper(7, 1, D2), could(1, D1))

    def test_on_the_limit_and_one_day_behind_it(self):
        known = [paper(7, 1, D1)]
        self.check_each(known, [(could(1, LIMIT), [0, *D1, 7]), (could(1, LATE), [0, *LATE, 0])])
        for setting in (closed(*LIMIT), rest(1)):
            self.check_each(known + [setting], [(could(1, LATE), [0, *D1, 7]), (could(1, LATER), [0, *LATER, 0])])

    def test_on_a_closed_day(self):
        self.check_last([0, *D2, 0], closed(*D2), could(1, D2))
        self.check_last([0, *D1, 7], paper(7, 1, D1), closed(*LIMIT), closed(*LATE), could(1, LATE))

    def test_the_earliest_day(self):
        known = [paper(3, 1, D1), paper(4, 2, D0), hand(1, 4, 2, 1, D0)]
        known += [paper(5, 3, (2020, 2, 1)), hand(2, 5, 3, 1, D0)]
        self.check_each(known, [
            (could(1, D2), [0, *D0, 4]), (could(1, (2021, 1, 8)), [0, 2020, 2, 1, 5]), (could(1, LIMIT), [0, *D1, 3]),
        ])

    def test_the_least_number_among_those_of_the_earliest_day(self):
        papers = [paper(n, 1, D1) for n in (30, 7, 19)]
        self.check_last([0, *D1, 7], *papers, could(1, D2))
        self.check_last([0, *D1, 19], *papers, hand(1, 7, 1, 2, D1), could(1, D2))
        self.check_last([0, *D1, 7], *papers, paper(2, 1, (2020, 3, 3)), could(1, D2))

    def test_somebody_who_got_the_right_by_a_deed(self):
        known = [paper(7, 1, D1, (1, 2)), hand(1, 7, 1, 2, D2, (1,))]
        self.check_each(known, [
            (could(2, (2020, 8, 31)), [0, 2020, 8, 31, 0]), (could(2, D2), [0, *D1, 7]), (could(2, LIMIT), [0, *D1, 7]),
            (could(2, D2, (2,)), [0, *D2, 0]),
        ])

    def test_somebody_who_gave_the_right_away(self):
        known = [paper(7, 1, D1, (1, 2)), hand(1, 7, 1, 2, D2, (1,))]
        self.check_each(known, [
            (could(1, (2020, 8, 31)), [0, *D1, 7]), (could(1, D2), [0, *D2, 0]), (could(1, LIMIT), [0, *LIMIT, 0]),
            (could(1, D2, (2,)), [0, *D1, 7]),
        ])

    def test_a_box_that_no_paper_discloses(self):
        known = [field(3), paper(7, 1, D1, (1, 2))]
        self.check_each(known, [(could(1, D2, (4,)), [0, *D2, 0]), (could(1, D2, (3,)), [0, *D2, 0])])

    def test_boxes_of_several_features(self):
        known = [field(2, 2), paper(7, 1, D1, (1, 2))]
        self.check_each(known, [(could(1, D2, (1, 2)), [0, *D1, 7]), (could(1, D2, (2, 1)), [0, *D2, 0])])

    def test_a_paper_that_is_not_first(self):
        known = [paper(6, 1, (2019, 1, 1)), paper(7, 1, D1)]
        self.check_last([0, *D2, 0], *known, could(1, D2))
        self.check_last([0, *D1, 7], *known, withdraw(6, D1), could(1, D2))
        self.check_last([0, *D2, 0], *known, withdraw(6, D1), publish(6, D1), could(1, D2))

    def test_it_names_an_older_paper_too_late_to_leave_a_trace_of_it(self):
        # Paper 6 is named by the paper that's thought of, but not on or before paper 7's date.
        known = [paper(6, 1, D0), withdraw(6, D0), paper(7, 1, D1)]
        self.check_each(known, [(could(1, D2), [0, *D0, 6]), (could(1, LIMIT), [0, *D1, 7])])

    def test_it_gets_dates_not_what_others_got(self):
        known = [paper(6, 1, D0), paper(7, 2, D1), hand(1, 6, 1, 2, D0), name(7, 6), hand(2, 6, 2, 9, D2)]
        self.check_each(known, [(day(7), [0, *D0, 6]), (could(2, D2), [0, *D1, 7])])

    def test_parted_papers_are_named_too(self):
        known = [paper(9, 1, D1, (1, 2)), part(4, 9, D1, (1,)), part(3, 9, D1, (2,))]
        self.check_last([0, *D1, 4], *known, could(1, D2))
        known = [paper(9, 1, D0, (1,)), withdraw(9, D1), part(4, 9, D1, (1,))]
        self.check_each(known, [(could(1, (2021, 1, 7)), [0, *D0, 9]), (could(1, (2021, 1, 8)), [0, *D1, 4])])

    def test_more_papers_than_a_paper_may_name(self):
        papers = [paper(n, n % 20 + 1, D1) for n in range(1, 24)] + [paper(24, 1, D0)]
        self.check_each(papers, [
            (could(1, D2), [0, *D0, 24]), (could(2, D2), [0, *D1, 1]), (could(20, D2), [0, *D1, 19]),
            (could(1, (2021, 1, 8)), [0, 2021, 1, 8, 0]),
        ])

    def test_at_the_ends_of_the_dates(self):
        known = [paper(7, 1, (2199, 1, 1)), paper(8, 2, (1900, 1, 1))]
        self.check_each(known, [
            (could(1, (2199, 12, 31)), [0, 2199, 1, 1, 7]), (could(2, (1900, 1, 1)), [0, 1900, 1, 1, 0]),
            (could(2, (1901, 1, 1)), [0, 1900, 1, 1, 8]),
        ])

    def test_a_paper_that_is_filed_so_gets_that_day(self):
        known = [paper(3, 1, D1), paper(4, 2, D0), hand(1, 4, 2, 1, D0)]
        filed = [paper(8, 1, D2), name(8, 3), name(8, 4)]
        self.assertEqual(run(known + [could(1, D2)])[-1], run(known + filed + [day(8)])[-1])

    def test_it_is_not_filed(self):
        self.check_each([paper(1, 1, D1), could(1, D2)], [(told(0), [-5]), (day(0), [-5]), (paper(2, 1, D1), [2])])


class RefusalTest(LineTest):
    KNOWN = [field(3), paper(1, 1, D1)]

    def test_ranges_dates_and_forms(self):
        self.check_people(self.KNOWN, lambda who: could(who, D1))
        self.check_dates(self.KNOWN, lambda date: could(1, date))
        self.check_box_forms(lambda box: could(1, D1, box))

    def test_which_refusal_comes_first(self):
        bad = (2021, 2, 29)
        self.check_each(self.KNOWN, [
            (could(0, bad, (9,)), [-3]), (could(21, D1, (9,)), [-3]), (could(1, bad, (9,)), [-2]),
            (could(1, D1, (9,)), [-4]),
        ])

    def test_asking_changes_nothing(self):
        self.check_asks_only(could(1, D2), could(2, D1), could(1, LATE, (4,)), could(0, D2), could(1, D2, ()))


if __name__ == "__main__":
    unittest.main()
