"""The call 15, holder: who has the right to name a paper for a box on a day."""

import unittest

from tests.lines import D0, D1, D2, D3, LineTest, field, hand, holder, name, paper, part

AHEAD = (2020, 8, 31)
BEHIND = (2020, 9, 2)
FIRST_DAY = (1900, 1, 1)
LAST_DAY = (2199, 12, 31)

KNOWN = [field(3), paper(1, 5, D1, (1, 2, 3)), paper(2, 5, D1, (1, 2))]


class HolderTest(LineTest):
    def test_without_deeds(self):
        for date in (FIRST_DAY, D0, D1, D3, LAST_DAY):
            self.check_each(KNOWN, [(holder(1, date), [5]), (holder(2, date, (2,)), [5])])

    def test_ahead_of_on_and_behind_a_deeds_date(self):
        known = KNOWN + [hand(1, 1, 5, 6, D2)]
        self.check_each(known, [
            (holder(1, FIRST_DAY), [5]), (holder(1, AHEAD), [5]), (holder(1, D2), [6]), (holder(1, BEHIND), [6]),
            (holder(1, LAST_DAY), [6]),
        ])

    def test_a_deed_ahead_of_the_papers_date(self):
        known = KNOWN + [hand(1, 1, 5, 6, D0)]
        self.check_each(known, [(holder(1, FIRST_DAY), [5]), (holder(1, D0), [6]), (holder(1, D1), [6])])

    def test_several_deeds_by_their_dates(self):
        known = KNOWN + [hand(1, 1, 6, 7, D3), hand(2, 1, 5, 6, D2)]
        self.check_each(known, [(holder(1, AHEAD), [5]), (holder(1, D2), [6]), (holder(1, D3), [7])])
        # By the dates the giver 6 hasn't the right yet.
        known = KNOWN + [hand(1, 1, 5, 6, D3), hand(2, 1, 6, 7, D2)]
        self.check_each(known, [(holder(1, D2), [5]), (holder(1, D3), [6]), (holder(1, LAST_DAY), [6])])

    def test_several_deeds_of_one_date_by_their_numbers(self):
        for deeds, expected in (
            ([hand(1, 1, 5, 6, D2), hand(2, 1, 6, 7, D2)], 7),
            ([hand(2, 1, 5, 6, D2), hand(1, 1, 6, 7, D2)], 6),
            ([hand(10, 1, 5, 6, D2), hand(9, 1, 5, 7, D2)], 7),
            ([hand(9, 1, 5, 6, D2), hand(10, 1, 5, 7, D2)], 6),
            ([hand(3, 1, 6, 5, D2), hand(2, 1, 5, 6, D2), hand(4, 1, 5, 9, D2)], 9),
        ):
            for told in (deeds, deeds[::-1]):
                self.check_each(KNOWN + told, [(holder(1, D2), [expected]), (holder(1, AHEAD), [5])])

    def test_a_giver_that_has_not_the_right(self):
        self.check_last([5], *KNOWN, hand(1, 1, 6, 7, D2), holder(1, D3))
        self.check_last([6], *KNOWN, hand(1, 1, 5, 6, D2), hand(2, 1, 5, 7, D3), holder(1, D3))
        self.check_last([5], *KNOWN, hand(1, 1, 6, 6, D2), holder(1, D3))

    def test_there_and_back(self):
        known = KNOWN + [hand(1, 1, 5, 6, D1), hand(2, 1, 6, 5, D2), hand(3, 1, 5, 5, D3), hand(4, 1, 5, 8, D3)]
        self.check_each(known, [(holder(1, D1), [6]), (holder(1, D2), [5]), (holder(1, D3), [8])])

    def test_deeds_about_other_boxes(self):
        known = KNOWN + [hand(1, 1, 5, 6, D2, (2,)), hand(2, 1, 5, 7, D2, (3, 1)), hand(3, 1, 6, 8, D3)]
        self.check_each(known, [
            (holder(1, D2, (1,)), [7]), (holder(1, D2, (2,)), [6]), (holder(1, D2, (3,)), [7]),
            (holder(1, D3, (1,)), [7]), (holder(1, D3, (2,)), [8]), (holder(1, D3, (3,)), [7]),
        ])

    def test_deeds_about_other_papers(self):
        known = KNOWN + [hand(1, 2, 5, 6, D2), part(3, 1, D1, (2, 1)), hand(2, 3, 5, 7, D2, (1,)), name(2, 1)]
        self.check_each(known, [
            (holder(1, D3), [5]), (holder(2, D3), [6]), (holder(3, D3), [7]), (holder(3, D3, (2,)), [5]),
        ])

    def test_boxes_of_several_features(self):
        known = [field(2, 2), paper(1, 5, D1, (1, 2, 2, 1)), hand(1, 1, 5, 6, D2, (2, 1))]
        self.check_each(known, [
            (holder(1, D3, (1, 2)), [5]), (holder(1, D3, (2, 1)), [6]), (holder(1, D3, (1, 1)), [-7]),
        ])

    def test_a_date_must_be_one(self):
        self.check_dates(KNOWN, lambda date: holder(1, date))

    def test_a_box_must_have_the_form(self):
        self.check_box_forms(lambda box: holder(1, D1, box))

    def test_there_must_be_the_paper(self):
        self.check_missing(KNOWN, lambda missing: holder(missing, D1))

    def test_the_paper_must_disclose_the_box(self):
        self.check_each(KNOWN, [(holder(1, D1, (4,)), [-7]), (holder(2, D1, (3,)), [-7]), (holder(1, D1, (3,)), [5])])

    def test_which_refusal_comes_first(self):
        bad = (2021, 2, 29)
        self.check_each(KNOWN, [
            (holder(777, bad, (9,)), [-2]), (holder(1, bad, (4,)), [-2]), (holder(777, D1, (9,)), [-4]),
            (holder(777, D1, (4,)), [-5]), (holder(1, D1, (4,)), [-7]),
        ])

    def test_asking_changes_nothing(self):
        self.check_asks_only(holder(2, D2), holder(2, D1), holder(2, D2, (2,)), holder(777, D2), holder(1, (0, 0, 0)))


if __name__ == "__main__":
    unittest.main()
