"""The calls 7 and 8: withdraw, publish."""

import unittest

from tests.lines import (
    BAD_DATES, GOOD_DATES, LEAST, MOST, OK, LineTest, day, name, paper, part, publish, withdraw,
)

D1 = (2020, 3, 2)
D2 = (2020, 9, 1)
D3 = (2020, 9, 2)

# Paper 2 is first, and gives paper 3 its date, only if paper 1 has left no trace.
TRACED = [paper(1, 1, D1), paper(2, 1, D2), paper(3, 1, D3), name(3, 2)]


class WithdrawTest(LineTest):
    def test_rights_left_or_not(self):
        self.check_each(TRACED, [(withdraw(1, D1, 0), OK), (withdraw(1, D1, 1), OK)])
        for left in (-1, 2, LEAST, MOST):
            self.check_each(TRACED, [(withdraw(1, D1, left), [-3])])

    def test_dates(self):
        known = [paper(1, 1, (1900, 1, 1))]
        self.check_each(known, [(withdraw(1, told), OK) for told in GOOD_DATES])
        self.check_each(known, [(withdraw(1, told), [-2]) for told in BAD_DATES])

    def test_there_must_be_the_paper(self):
        for missing in (0, 4, -1, 1000, LEAST, MOST):
            self.check_each(TRACED, [(withdraw(missing, D3), [-5])])

    def test_the_date_is_not_before_the_papers(self):
        self.check_each(TRACED, [(withdraw(2, (2020, 8, 31)), [-7]), (withdraw(2, D2), OK), (withdraw(2, D3), OK)])

    def test_the_date_is_not_before_that_of_a_parted_paper(self):
        known = TRACED + [part(4, 1, D3), part(5, 1, D2), part(6, 4, (2021, 1, 1))]
        self.check_each(known, [
            (withdraw(1, D1), [-7]), (withdraw(1, D2), [-7]), (withdraw(1, D3), OK), (withdraw(4, D3), [-7]),
            (withdraw(4, (2020, 12, 31)), [-7]), (withdraw(4, (2021, 1, 1)), OK), (withdraw(5, D2), OK),
            (withdraw(6, (2021, 1, 1)), OK), (withdraw(2, D2), OK),
        ])

    def test_withdrawn_already(self):
        for left in (0, 1):
            known = TRACED + [withdraw(1, D2, left)]
            self.check_each(known, [
                (withdraw(1, D2, left), [-8]), (withdraw(1, D3, 1 - left), [-8]), (withdraw(2, D2), OK),
            ])

    def test_which_refusal_comes_first(self):
        known = TRACED + [withdraw(2, D2)]
        bad = (2020, 2, 30)
        self.check_each(known, [
            (withdraw(99, bad, 2), [-3]), (withdraw(99, bad), [-2]), (withdraw(2, bad), [-2]), (withdraw(99, D1), [-5]),
            (withdraw(2, D1), [-7]), (withdraw(2, D2), [-8]),
        ])

    def test_a_refusal_changes_nothing(self):
        known = TRACED + [part(4, 1, D1)]
        refused = [withdraw(1, (2020, 3, 1)), withdraw(1, D1, 2), withdraw(1, (2020, 2, 30)), withdraw(99, D1)]
        self.check_unchanged(known, refused, [day(3), part(5, 1, D2), withdraw(1, D2), withdraw(4, D1), day(3)])
        self.check_unchanged(TRACED + [withdraw(1, D2, 1)], [withdraw(1, D2, 0)], [day(3), part(5, 1, D2)])
        self.check_unchanged(TRACED + [withdraw(1, D3, 0)], [withdraw(1, D2, 0)], [day(3), part(5, 1, D3)])
        self.check_unchanged(TRACED + [withdraw(1, D2, 0)], [withdraw(1, D3, 1)], [day(3), part(5, 1, D3)])


class PublishTest(LineTest):
    def test_dates(self):
        known = [paper(1, 1, (1900, 1, 1))]
        self.check_each(known, [(publish(1, told), OK) for told in GOOD_DATES])
        self.check_each(known, [(publish(1, told), [-2]) for told in BAD_DATES])

    def test_there_must_be_the_paper(self):
        for missing in (0, 4, -1, 1000, LEAST, MOST):
            self.check_each(TRACED, [(publish(missing, D3), [-5])])

    def test_the_date_is_not_before_the_papers(self):
        self.check_each(TRACED, [(publish(2, (2020, 8, 31)), [-7]), (publish(2, D2), OK), (publish(2, D3), OK)])

    def test_that_of_a_parted_paper_does_not_matter(self):
        self.check_each(TRACED + [part(4, 1, D3)], [(publish(1, D1), OK), (publish(4, D2), [-7]), (publish(4, D3), OK)])

    def test_published_already(self):
        known = TRACED + [publish(1, D2)]
        self.check_each(known, [(publish(1, D2), [-8]), (publish(1, D3), [-8]), (publish(2, D2), OK)])

    def test_a_withdrawn_paper_may_be_published_and_the_other_way(self):
        self.check_each(TRACED + [withdraw(1, D1)], [(publish(1, D3), OK)])
        self.check_each(TRACED + [publish(1, D1)], [(withdraw(1, D3), OK)])

    def test_which_refusal_comes_first(self):
        known = TRACED + [publish(2, D2)]
        bad = (2020, 2, 30)
        self.check_each(known, [
            (publish(99, bad), [-2]), (publish(2, bad), [-2]), (publish(99, D1), [-5]), (publish(2, D1), [-7]),
            (publish(2, D2), [-8]),
        ])

    def test_a_refusal_changes_nothing(self):
        known = TRACED + [withdraw(1, D1)]
        refused = [publish(1, (2020, 3, 1)), publish(1, (2020, 2, 30)), publish(99, D1)]
        self.check_unchanged(known, refused, [day(3), publish(1, D2), day(3)])
        self.check_unchanged(known + [publish(1, D3)], [publish(1, D2)], [day(3)])
        self.check_unchanged(known + [publish(1, D2)], [publish(1, D3)], [day(3)])


if __name__ == "__main__":
    unittest.main()
