"""The calls 11 and 20, days and claim: the days of several boxes of a paper."""

import unittest

from tests.lines import (
    D0, D1, D2, D3, LEAST, MOST, LineTest, claim, days, field, give, hand, name, paper, part, withdraw,
)

# Paper 3 has the box 1 from paper 1, the boxes 2 and 3 from paper 2, and the others from itself.
KNOWN = [field(4), paper(1, 1, D0, (1, 15)), paper(2, 1, D1, (1, 3, 2)), paper(3, 1, D2, (2, 4, 1, 8, 3)),
         name(3, 1), name(3, 2), part(5, 3, D3, (4, 3, 1)), part(6, 5, D3, (1,))]


class DaysTest(LineTest):
    def test_one_box(self):
        self.check_last([1, *D1, 7], paper(7, 1, D1), days(7))
        self.check_last([1, *D1, 7], paper(7, 1, D1), paper(8, 1, D2), name(8, 7), days(8))

    def test_several_boxes_in_the_papers_own_order(self):
        self.check_last([5, *D1, 2, *D2, 3, *D0, 1, *D2, 3, *D1, 2], *KNOWN, days(3))
        self.check_last([3, *D1, 2, *D1, 2, *D1, 2], *KNOWN, days(2))

    def test_twelve_boxes(self):
        boxes = (12, 3, 9, 1, 7, 5, 2, 11, 4, 10, 8, 6)
        known = [field(4), paper(1, 1, D0, (1, 2, 3, 4, 5)), paper(2, 1, D1, boxes), name(2, 1)]
        expected = [12]
        for box in boxes:
            expected += [*D0, 1] if box < 6 else [*D1, 2]
        self.check_last(expected, *known, days(2))

    def test_boxes_of_several_features(self):
        known = [field(2, 2), paper(1, 1, D0, (1, 2)), paper(2, 1, D1, (2, 1, 1, 2)), name(2, 1)]
        self.check_last([2, *D1, 2, *D0, 1], *known, days(2))

    def test_a_parted_papers(self):
        self.check_last([3, *D2, 3, *D1, 2, *D0, 1], *KNOWN, days(5))
        self.check_last([1, *D0, 1], *KNOWN, days(6))
        self.check_last([3, *D2, 3, *D1, 2, *D2, 3], *KNOWN, give(3, 1), days(5))

    def test_refusals(self):
        self.check_missing(KNOWN, days)
        self.check_missing([], days)

    def test_asking_changes_nothing(self):
        self.check_asks_only(days(4), days(5), days(1), days(777))


class ClaimTest(LineTest):
    def test_one_box(self):
        self.check_each(KNOWN, [
            (claim(3, (1,)), [1, *D0, 1]), (claim(3, (2,)), [1, *D1, 1]), (claim(3, (8,)), [1, *D2, 1]),
        ])

    def test_several_boxes_of_one_day(self):
        self.check_each(KNOWN, [
            (claim(3, (3, 2)), [1, *D1, 2]), (claim(3, (4, 8)), [1, *D2, 2]), (claim(1, (15, 1)), [1, *D0, 2]),
        ])

    def test_several_days_the_earliest_first(self):
        self.check_each(KNOWN, [
            (claim(3, (8, 3, 1)), [3, *D0, 1, *D1, 1, *D2, 1]),
            (claim(3, (2, 4, 1, 8, 3)), [3, *D0, 1, *D1, 2, *D2, 2]),
            (claim(3, (8, 4, 1)), [2, *D0, 1, *D2, 2]),
            (claim(3, (1, 4)), [2, *D0, 1, *D2, 1]), (claim(3, (4, 1)), [2, *D0, 1, *D2, 1]),
        ])

    def test_days_are_put_in_order_by_year_month_and_day(self):
        dates = [(2020, 10, 2), (2020, 2, 10), (2019, 12, 31), (2020, 2, 9)]
        known = [field(4)] + [paper(n, n, date, (n,)) for n, date in enumerate(dates, start=1)]
        known += [paper(9, 1, (2020, 11, 1), (1, 2, 3, 4, 5))] + [name(9, n) for n in range(1, 5)]
        known += [hand(n, n, n, 1, D0) for n in range(2, 5)]
        expected = [5, 2019, 12, 31, 1, 2020, 2, 9, 1, 2020, 2, 10, 1, 2020, 10, 2, 1, 2020, 11, 1, 1]
        self.check_last(expected, *known, claim(9, (1, 2, 3, 4, 5)))

    def test_papers_of_one_day_make_one_day(self):
        known = [paper(1, 1, D0, (1,)), paper(2, 1, D0, (2,)), paper(3, 1, D1, (1, 2)), name(3, 1), name(3, 2)]
        self.check_last([1, *D0, 2], *known, claim(3, (1, 2)))

    def test_twelve_boxes(self):
        boxes = tuple(range(1, 13))
        known = [field(4), paper(1, 1, D0, (12, 3)), paper(2, 1, D1, boxes), name(2, 1)]
        self.check_last([2, *D0, 2, *D1, 10], *known, claim(2, boxes[::-1]))

    def test_a_parted_papers(self):
        self.check_each(KNOWN, [
            (claim(5, (3, 1, 4)), [3, *D0, 1, *D1, 1, *D2, 1]), (claim(6, (1,)), [1, *D0, 1]),
            (claim(5, (2,)), [-7]), (claim(6, (4,)), [-7]),
        ])

    def test_boxes_of_several_features(self):
        known = [field(2, 2), paper(1, 1, D0, (1, 2)), paper(2, 1, D1, (2, 1, 1, 2)), name(2, 1)]
        self.check_each(known, [
            (claim(2, (2, 1, 1, 2)), [2, *D0, 1, *D1, 1]), (claim(2, (1, 2)), [1, *D0, 1]), (claim(2, (1, 2, 2)), [-4]),
            (claim(2, (1, 1)), [-7]), (claim(2, (1, 2, 2, 2)), [-7]), (claim(2, (1, 2, 1, 2)), [-4]),
        ])

    def test_boxes_must_have_the_form(self):
        for boxes in ((), (0,), (16,), (-1,), (1, 0), (1, 16), (LEAST,), (MOST,), range(1, 14), range(1, 81)):
            self.check_each(KNOWN, [(claim(3, boxes), [-4])])

    def test_boxes_that_are_alike(self):
        self.check_each(KNOWN, [(claim(3, (1, 1)), [-4]), (claim(3, (1, 2, 1)), [-4]), (claim(3, (5, 5)), [-4])])

    def test_a_box_that_the_paper_does_not_disclose(self):
        self.check_each(KNOWN, [
            (claim(3, (5,)), [-7]), (claim(3, (1, 5)), [-7]), (claim(3, (5, 1)), [-7]), (claim(1, (2,)), [-7]),
            (claim(3, (15,)), [-7]),
        ])

    def test_there_must_be_the_paper(self):
        self.check_missing(KNOWN, claim)

    def test_which_refusal_comes_first(self):
        self.check_each(KNOWN, [
            (claim(777, (5, 5)), [-4]), (claim(777, ()), [-4]), (claim(777, (5,)), [-5]), (claim(3, (5, 5)), [-4]),
        ])

    def test_asking_changes_nothing(self):
        self.check_asks_only(claim(4, (1, 2, 4)), claim(5, (1,)), claim(5, (4,)), claim(4, (1, 1)), claim(777))

    def test_it_follows_what_becomes_known(self):
        self.check_last([2, *D1, 3, *D2, 2], *KNOWN, give(3, 1), withdraw(1, D0), claim(3, (2, 4, 1, 8, 3)))


if __name__ == "__main__":
    unittest.main()
