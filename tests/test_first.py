"""The call 14, first: which papers of somebody are first for a box."""

import unittest

from tests.lines import (
    D0, D1, D2, D3, LEAST, MOST, LineTest, field, first, give, hand, name, paper, part, publish, withdraw,
)


class FirstTest(LineTest):
    def check(self, expected, *known):
        self.check_last([0] + expected, *known, first(1))

    def test_none(self):
        self.check([])
        self.check([], paper(1, 2, D0))
        self.check([], paper(1, 1, D0, (2, 3)))

    def test_one(self):
        self.check([1], paper(1, 1, D0))
        self.check([1], paper(1, 1, D0), paper(2, 1, D1))
        self.check([2], paper(1, 1, D1), paper(2, 1, D0))
        self.check([1], paper(1, 1, D1), paper(2, 2, D0))
        self.check([1], paper(1, 1, D1), paper(2, 1, D0, (3,)))

    def test_several_of_one_date_by_rising_numbers(self):
        known = [paper(n, 1, D0) for n in (30, 7, 199, 20)]
        self.check([7, 20, 30, 199], *known)
        self.check([7, 20, 30, 199], *known, paper(1, 1, D1))
        self.check([1], *known, paper(1, 1, (2019, 1, 1)))

    def test_an_older_paper_that_left_no_trace(self):
        known = [paper(5, 1, D0), paper(3, 1, D1), paper(2, 1, D2)]
        self.check([5], *known)
        self.check([3, 5], *known, withdraw(5, D1))
        self.check([5], *known, withdraw(5, D2))
        self.check([2, 3, 5], *known, withdraw(5, D0), withdraw(3, D2))
        self.check([2, 3, 5], *known, withdraw(5, D1), withdraw(3, D1))
        self.check([5], *known, withdraw(3, D1))

    def test_an_older_paper_that_would_have_left_none_but_for_a_name(self):
        known = [paper(5, 1, D0), withdraw(5, D0), paper(3, 1, D1)]
        self.check([3, 5], *known)
        for date, expected in ((D0, [5]), (D1, [5]), (D2, [3, 5])):
            self.check(expected, *known, paper(9, 8, date, (2,)), name(9, 5))
        self.check([3, 5], *known, paper(9, 8, D1, (2,)), name(9, 5), give(9, 5))
        self.check([5], *known, name(3, 5))

    def test_an_older_paper_that_would_have_left_none_but_for_a_publication(self):
        known = [paper(5, 1, D0), withdraw(5, D0), paper(3, 1, D1)]
        for date, expected in ((D0, [5]), (D1, [5]), (D2, [3, 5])):
            self.check(expected, *known, publish(5, date))

    def test_an_older_paper_that_would_have_left_none_but_for_rights_left(self):
        self.check([5], paper(5, 1, D0), withdraw(5, D0, 1), paper(3, 1, D1))

    def test_one_box_by_itself(self):
        known = [field(3), paper(1, 1, D0, (1, 2)), paper(2, 1, D1, (2, 4)), paper(3, 1, D2, (4, 1, 7))]
        self.check_each(known, [
            (first(1, (1,)), [0, 1]), (first(1, (2,)), [0, 1]), (first(1, (4,)), [0, 2]), (first(1, (7,)), [0, 3]),
            (first(1, (3,)), [0]),
        ])

    def test_boxes_of_several_features(self):
        known = [field(2, 2), paper(1, 1, D0, (1, 2)), paper(2, 1, D1, (2, 1, 1, 2))]
        self.check_each(known, [
            (first(1, (1, 2)), [0, 1]), (first(1, (2, 1)), [0, 2]), (first(1, (1, 1)), [0]), (first(1, (2, 2)), [0]),
        ])

    def test_each_by_whoever_filed_it(self):
        known = [paper(1, 1, D0), paper(2, 2, D1), paper(3, 20, D2), paper(4, 2, D2), hand(1, 1, 1, 2, D0)]
        self.check_each(known, [
            (first(1), [0, 1]), (first(2), [0, 2]), (first(20), [0, 3]), (first(3), [0]),
        ])

    def test_parted_papers(self):
        known = [paper(4, 1, D0, (1, 2)), part(3, 4, D0), part(2, 3, D1), part(5, 4, D0, (2,))]
        self.check([3, 4], *known)
        self.check_last([0, 4, 5], *known, first(1, (2,)))
        self.check([2, 3, 4], paper(4, 1, D0), part(3, 4, D0), part(2, 3, D3), withdraw(4, D1), withdraw(3, D3))

    def test_refusals(self):
        known = [paper(1, 1, D0)]
        self.check_people(known, first)
        self.check_box_forms(lambda box: first(1, box))
        self.check_each(known, [(first(0, (9,)), [-3]), (first(21, ()), [-3]), (first(LEAST, (MOST,)), [-3])])

    def test_asking_changes_nothing(self):
        self.check_asks_only(first(1), first(2), first(2, (4,)), first(20), first(0), first(1, (8,)))

    def test_it_follows_what_becomes_known(self):
        known = [paper(5, 1, D0), paper(3, 1, D1), first(1), withdraw(5, D0), first(1)]
        self.check([3, 5], *known)
        self.check([5], *known, publish(5, D0))
        self.check([5], *known, name(3, 5))
        self.check([3, 5], *known, name(3, 5), first(1), give(3, 5))
        self.check([2], *known, paper(2, 1, (1999, 1, 1)))


if __name__ == "__main__":
    unittest.main()
