"""The call 9, hand, and what deeds do to the right to name."""

import unittest

from tests.lines import (
    BAD_DATES, GOOD_DATES, LEAST, MOST, OK, LineTest, day, field, hand, name, paper, part, run, withdraw,
)

D0 = (2019, 1, 1)
D1 = (2020, 3, 2)
D2 = (2020, 9, 1)
D3 = (2020, 9, 2)

KNOWN = [field(3), paper(1, 5, D1, (1, 2, 3)), paper(2, 6, D2, (1, 2, 3, 4))]


class HandTest(LineTest):
    def test_ranges(self):
        self.check_each(KNOWN, [
            (hand(1, 1, 1, 20, D1), OK), (hand(999, 1, 20, 1, D1), OK), (hand(1, 1, 7, 7, D1), OK),
            (hand(0, 1, 1, 1, D1), [-3]), (hand(1000, 1, 1, 1, D1), [-3]), (hand(1, 1, 0, 1, D1), [-3]),
            (hand(1, 1, 21, 1, D1), [-3]), (hand(1, 1, 1, 0, D1), [-3]), (hand(1, 1, 1, 21, D1), [-3]),
        ])
        for end in (LEAST, MOST):
            self.check_each(KNOWN, [
                (hand(end, 1, 1, 1, D1), [-3]), (hand(1, 1, end, 1, D1), [-3]), (hand(1, 1, 1, end, D1), [-3]),
                (hand(1, end, 1, 1, D1), [-5]),
            ])

    def test_dates(self):
        self.check_each(KNOWN, [(hand(1, 1, 1, 2, told), OK) for told in GOOD_DATES])
        self.check_each(KNOWN, [(hand(1, 1, 1, 2, told), [-2]) for told in BAD_DATES])

    def test_boxes(self):
        self.check_each(KNOWN, [
            (hand(1, 1, 1, 2, D1, ()), OK), (hand(1, 1, 1, 2, D1, (1,)), OK), (hand(1, 1, 1, 2, D1, (3, 1, 2)), OK),
            (hand(1, 1, 1, 2, D1, (0,)), [-4]), (hand(1, 1, 1, 2, D1, (8,)), [-4]),
            (hand(1, 1, 1, 2, D1, (1, 1)), [-4]), (hand(1, 1, 1, 2, D1, (1, 2, 3, 1)), [-4]),
        ])
        boxes = [number for n in range(1, 14) for number in (n, 1)]
        many = [field(8, 8), paper(1, 1, D1, boxes[:24])]
        self.check_each(many, [
            (hand(1, 1, 1, 2, D1, boxes[:24]), OK), (hand(1, 1, 1, 2, D1, boxes), [-4]),
            (hand(1, 1, 1, 2, D1, boxes[:3]), [-4]), (hand(1, 1, 1, 2, D1, range(1, 81)), [-4]),
        ])

    def test_there_must_be_the_paper(self):
        for missing in (0, 3, -1, 1000, LEAST, MOST):
            self.check_each(KNOWN, [(hand(1, missing, 1, 2, D1), [-5])])

    def test_a_number_that_is_taken(self):
        known = KNOWN + [hand(4, 1, 5, 6, D1)]
        self.check_each(known, [(hand(4, 1, 5, 6, D1), [-6]), (hand(4, 2, 1, 2, D2), [-6]), (hand(5, 1, 5, 6, D1), OK)])

    def test_a_box_that_the_paper_does_not_disclose(self):
        self.check_each(KNOWN, [
            (hand(1, 1, 5, 6, D1, (4,)), [-7]), (hand(1, 1, 5, 6, D1, (1, 4)), [-7]),
            (hand(1, 1, 5, 6, D1, (4, 1)), [-7]), (hand(1, 2, 5, 6, D1, (4,)), OK),
        ])

    def test_40_deeds(self):
        known = KNOWN + [hand(k, 1 + k % 2, 1, 2, D1) for k in range(1, 41)]
        self.check_each(known[:-1], [(hand(40, 1, 1, 2, D1), OK)])
        self.check_each(known, [(hand(41, 1, 1, 2, D1), [-9]), (hand(40, 1, 1, 2, D1), [-6])])

    def test_which_refusal_comes_first(self):
        known = KNOWN + [hand(k, 1, 1, 2, D1) for k in range(1, 41)]
        bad = (2020, 2, 30)
        self.check_each(known, [
            (hand(0, 99, 1, 2, bad, (9,)), [-3]), (hand(1, 99, 0, 2, bad, (9,)), [-3]),
            (hand(1, 99, 1, 0, bad, (9,)), [-3]), (hand(1, 99, 1, 2, bad, (9,)), [-2]),
            (hand(1, 99, 1, 2, D1, (9,)), [-4]), (hand(1, 99, 1, 2, D1, (4,)), [-5]),
            (hand(1, 1, 1, 2, D1, (4,)), [-6]), (hand(41, 1, 1, 2, D1, (4,)), [-7]), (hand(41, 1, 1, 2, D1), [-9]),
        ])

    def test_a_refusal_changes_nothing(self):
        known = KNOWN + [name(2, 1), hand(1, 1, 5, 6, D1, (2,))]
        refused = [hand(1, 1, 5, 6, D1), hand(2, 1, 5, 6, D1, (1, 4)), hand(0, 1, 5, 6, D1), hand(1000, 1, 5, 6, D1),
                   hand(2, 1, 5, 6, (2020, 2, 30)), hand(2, 1, 5, 6, D1, (1, 1)), hand(2, 99, 5, 6, D1),
                   hand(1, 1, 6, 5, D1), hand(2, 1, 21, 6, D1), hand(2, 1, 5, 21, D1)]
        asked = [day(2, (1,)), day(2, (2,)), day(2, (3,)), hand(2, 1, 5, 6, D1, (3,)), day(2, (3,))]
        self.check_unchanged(known, refused, asked)
        full = KNOWN + [name(2, 1)] + [hand(k, 1, 1, 2, D1) for k in range(1, 41)]
        self.check_unchanged(full, [hand(41, 1, 5, 6, D1)], [day(2, (1,)), day(2, (2,))])


class RightTest(LineTest):
    """Paper 2 of 6 names paper 1 of 5: a box has paper 1's date where 6 has the right on paper 2's date."""

    def check_given(self, expected, deeds, filed=D2):
        """expected: those of the boxes 1 to 3 for which paper 1 gives paper 2 its date."""
        calls = [field(3), paper(1, 5, D1, (1, 2, 3)), paper(2, 6, filed, (1, 2, 3)), name(2, 1)]
        found = run(calls + deeds + [day(2, (box,)) for box in (1, 2, 3)])
        self.assertEqual(found[4:-3], [OK] * len(deeds))
        own = [0, *filed, 2]
        self.assertEqual(found[-3:], [[0, *D1, 1] if box in expected else own for box in (1, 2, 3)])

    def test_without_deeds_whoever_filed_it_has_the_right(self):
        self.check_given([], [])

    def test_a_deed_about_all_boxes(self):
        self.check_given([1, 2, 3], [hand(1, 1, 5, 6, D1)])

    def test_a_deed_about_some_boxes(self):
        self.check_given([2], [hand(1, 1, 5, 6, D1, (2,))])
        self.check_given([1, 3], [hand(1, 1, 5, 6, D1, (3, 1))])

    def test_deeds_about_different_boxes(self):
        self.check_given([1, 2], [hand(1, 1, 5, 6, D1, (2,)), hand(2, 1, 5, 6, D2, (1,))])
        self.check_given([3], [hand(1, 1, 5, 6, D1), hand(2, 1, 6, 5, D2, (1, 2))])

    def test_the_naming_papers_own_date_and_a_day_later(self):
        self.check_given([1, 2, 3], [hand(1, 1, 5, 6, D2)])
        self.check_given([], [hand(1, 1, 5, 6, D3)])
        self.check_given([1, 2, 3], [hand(1, 1, 5, 6, D1), hand(2, 1, 6, 7, D3)])
        self.check_given([], [hand(1, 1, 5, 6, D1), hand(2, 1, 6, 7, D2)])

    def test_a_deed_before_the_papers_date(self):
        self.check_given([1, 2, 3], [hand(1, 1, 5, 6, D0)])

    def test_a_giver_that_has_not_the_right(self):
        self.check_given([], [hand(1, 1, 7, 6, D1)])
        self.check_given([], [hand(1, 1, 5, 7, D1), hand(2, 1, 5, 6, D2)])
        self.check_given([1, 2, 3], [hand(1, 1, 5, 6, D1), hand(2, 1, 5, 7, D2)])
        self.check_given([2], [hand(1, 1, 5, 7, D1, (2,)), hand(2, 1, 7, 6, D2)])

    def test_rows_of_deeds(self):
        self.check_given([1, 2, 3], [hand(1, 1, 5, 7, D0), hand(2, 1, 7, 8, D1), hand(3, 1, 8, 6, D2)])
        self.check_given([1, 2, 3], [hand(1, 1, 5, 6, D0), hand(2, 1, 6, 5, D1), hand(3, 1, 5, 6, D2)])

    def test_deeds_of_one_date_work_by_their_numbers(self):
        self.check_given([1, 2, 3], [hand(1, 1, 5, 7, D1), hand(2, 1, 7, 6, D1)])
        self.check_given([1, 2, 3], [hand(2, 1, 7, 6, D1), hand(1, 1, 5, 7, D1)])
        self.check_given([], [hand(2, 1, 5, 7, D1), hand(1, 1, 7, 6, D1)])
        self.check_given([], [hand(1, 1, 7, 6, D1), hand(2, 1, 5, 7, D1)])
        self.check_given([1, 2, 3], [hand(9, 1, 5, 7, D1), hand(10, 1, 7, 6, D1)])

    def test_deeds_that_become_known_in_another_order_than_their_dates(self):
        self.check_given([1, 2, 3], [hand(1, 1, 7, 6, D2), hand(2, 1, 5, 7, D1)])
        self.check_given([], [hand(1, 1, 5, 7, D2), hand(2, 1, 7, 6, D1)])
        self.check_given([1, 2, 3], [hand(3, 1, 8, 6, D2), hand(2, 1, 5, 7, D0), hand(1, 1, 7, 8, D1)])

    def test_dates_go_before_numbers(self):
        self.check_given([1, 2, 3], [hand(2, 1, 5, 7, (2020, 3, 31)), hand(1, 1, 7, 6, (2020, 4, 1))])
        self.check_given([1, 2, 3], [hand(2, 1, 5, 7, (2019, 12, 31)), hand(1, 1, 7, 6, (2020, 1, 1))])

    def test_the_giver_is_the_taker(self):
        self.check_given([], [hand(1, 1, 5, 5, D1)])
        self.check_given([1, 2, 3], [hand(1, 1, 5, 6, D1), hand(2, 1, 6, 6, D1)])

    def test_whoever_filed_it_has_lost_the_right(self):
        calls = [paper(1, 5, D1), paper(2, 5, D2), name(2, 1), day(2), hand(1, 1, 5, 6, D2), day(2)]
        found = run(calls)
        self.assertEqual([found[3], found[5]], [[0, *D1, 1], [0, *D2, 2]])

    def test_each_paper_has_a_right_of_its_own(self):
        known = [paper(1, 5, D1, (1,)), paper(3, 5, D1, (1,)), paper(2, 6, D2), name(2, 1), name(2, 3)]
        self.check_last([0, *D1, 3], *known, hand(1, 3, 5, 6, D1), day(2))
        self.check_last([0, *D1, 1], *known, hand(1, 1, 5, 6, D1), day(2))

    def test_the_right_in_a_parted_paper_is_not_that_in_its_parent(self):
        known = [paper(1, 5, D1), part(3, 1, D1), paper(2, 6, D2), name(2, 3)]
        self.check_last([0, *D2, 2], *known, hand(1, 1, 5, 6, D1), day(2))
        self.check_last([0, *D1, 3], *known, hand(1, 3, 5, 6, D1), day(2))

    def test_a_withdrawn_paper_may_be_handed_over(self):
        known = [paper(1, 5, D1), paper(2, 6, D2), name(2, 1), withdraw(1, D1)]
        self.check_last([0, *D1, 1], *known, hand(1, 1, 5, 6, D1), day(2))


if __name__ == "__main__":
    unittest.main()
