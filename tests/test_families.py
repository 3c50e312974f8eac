"""The calls 16 and 17, family and alike."""

import unittest

from tests.lines import (
    D0, D1, D2, D3, LineTest, alike, family, field, give, hand, name, paper, part, publish, withdraw,
)


class FamilyTest(LineTest):
    def check(self, expected, known):
        """Each paper of a family tells the same one."""
        self.check_each(known, [(family(n), [0] + expected) for n in expected])

    def test_a_paper_alone(self):
        self.check([7], [paper(7, 1, D0)])
        self.check([7], [paper(7, 1, D0), paper(3, 1, D0), paper(4, 1, D1), name(4, 3), part(5, 3, D1)])

    def test_what_makes_no_family(self):
        known = [paper(1, 1, D0), paper(2, 1, D1), hand(1, 1, 1, 2, D1), publish(1, D1), withdraw(1, D1, 1)]
        self.check([1], known)
        self.check([2], known)

    def test_a_name_both_ways(self):
        self.check([1, 2], [paper(1, 1, D0), paper(2, 2, D1), name(2, 1)])
        self.check([1, 2], [paper(2, 1, D0), paper(1, 2, D1), name(1, 2)])

    def test_a_name_counts_though_it_gives_nothing(self):
        self.check([1, 2], [paper(1, 1, D0, (1,)), paper(2, 2, (2100, 1, 1), (2,)), name(2, 1)])

    def test_a_parent_both_ways(self):
        self.check([1, 2], [paper(1, 1, D0), part(2, 1, D1)])
        self.check([1, 2], [paper(2, 1, D0), part(1, 2, D1)])

    def test_chains_over_names(self):
        papers = [paper(n, n, D0) for n in (9, 4, 6, 2, 8)]
        self.check([2, 4, 6, 8, 9], papers + [name(9, 4), name(6, 4), name(6, 2), name(8, 2)])
        self.check([2, 4, 6, 8, 9], papers + [name(9, 4), name(4, 6), name(6, 2), name(2, 8)])
        self.check([2, 4, 6, 8, 9], papers + [name(9, 4), name(9, 6), name(9, 2), name(9, 8)])

    def test_chains_over_parting(self):
        self.check([1, 2, 3, 4, 5], [paper(3, 1, D0), part(1, 3, D1), part(5, 1, D1), part(2, 3, D1), part(4, 2, D2)])

    def test_chains_over_both(self):
        known = [paper(10, 1, D0), part(20, 10, D0), paper(5, 2, D1), name(5, 20), part(1, 5, D1), paper(6, 1, D2)]
        self.check([1, 5, 10, 20], known)
        self.check([6], known)
        self.check([1, 5, 6, 10, 20], known + [name(6, 1)])

    def test_two_families(self):
        known = [paper(1, 1, D0), paper(2, 1, D1), name(2, 1), paper(3, 1, D0), part(4, 3, D1), part(6, 2, D1)]
        self.check([1, 2, 6], known)
        self.check([3, 4], known)

    def test_a_name_given_up_between(self):
        known = [paper(1, 1, D0), paper(2, 1, D1), paper(3, 1, D2), paper(4, 1, D2), name(2, 1), name(3, 2), name(4, 3)]
        self.check([1, 2, 3, 4], known)
        self.check([1, 2], known + [give(3, 2)])
        self.check([3, 4], known + [give(3, 2)])
        self.check([1, 2, 3, 4], known + [give(3, 2), name(3, 2)])
        self.check([1, 2, 3, 4], known + [give(3, 2), name(4, 1)])

    def test_24_papers_in_a_ring_and_in_a_row(self):
        papers = [paper(n, 1, D0) for n in range(1, 25)]
        row = [name(n, n + 1) for n in range(1, 24)]
        self.check(list(range(1, 25)), papers + row)
        self.check(list(range(1, 25)), papers + row + [name(24, 1)])
        self.check(list(range(1, 25)), [paper(24, 1, D0)] + [part(n, n + 1, D0) for n in range(23, 0, -1)])

    def test_refusals(self):
        self.check_missing([paper(1, 1, D0)], family)

    def test_asking_changes_nothing(self):
        self.check_asks_only(family(4), family(3), family(777))


class AlikeTest(LineTest):
    def check(self, known, groups):
        for group in groups:
            self.check_each(known, [(alike(n), [0] + group) for n in group])

    def test_a_paper_alone(self):
        self.check([paper(7, 1, D0)], [[7]])
        self.check([paper(7, 1, D0), paper(8, 1, D0)], [[7], [8]])

    def test_the_same_sources_from_different_boxes(self):
        known = [field(3), paper(1, 1, D0, (1, 2, 4)), paper(2, 1, D1, (1,)), paper(3, 1, D2, (4, 2)), name(2, 1),
                 name(3, 1)]
        self.check(known, [[1, 2, 3]])

    def test_how_often_a_source_stands_and_in_which_order_makes_no_difference(self):
        known = [field(3), paper(1, 1, D0, (1, 2)), paper(2, 1, D0, (4, 3)), paper(5, 1, D1, (1, 2, 4)),
                 paper(3, 1, D2, (3, 1)), name(5, 1), name(5, 2), name(3, 2), name(3, 1)]
        self.check(known, [[1], [2], [3, 5]])

    def test_all_sources_must_be_the_same(self):
        known = [field(3), paper(1, 1, D0, (1, 2)), paper(2, 1, D1, (1, 4)), paper(3, 1, D2, (1, 2)), name(2, 1),
                 name(3, 1), paper(4, 1, D2, (2, 7))]
        self.check(known, [[1, 3], [2], [4]])
        self.check(known + [name(4, 1)], [[1, 3], [2], [4]])
        self.check(known + [give(3, 1)], [[1], [2], [3], [4]])

    def test_a_day_that_is_the_same_from_another_source(self):
        known = [paper(1, 1, D0, (1,)), paper(2, 1, D0, (2,)), paper(3, 1, D1, (1,)), paper(4, 1, D1, (2,)), name(3, 1),
                 name(4, 2)]
        self.check(known, [[1, 3], [2, 4]])

    def test_a_parted_paper_and_its_parent(self):
        known = [paper(3, 1, D0, (1, 2)), part(1, 3, D1, (2,)), part(2, 1, D2, (2,))]
        self.check(known, [[1, 2, 3]])
        known = [field(3), paper(1, 1, D0, (1,)), paper(2, 1, D1, (1, 2)), name(2, 1), part(3, 2, D1, (1,)),
                 part(4, 2, D1, (2, 1)), part(5, 2, D1, (2,)), part(6, 4, D2, (2,))]
        self.check(known, [[1, 3], [2, 4], [5, 6]])

    def test_whoever_filed_them(self):
        known = [paper(1, 1, D0), paper(2, 2, D1), hand(1, 1, 1, 2, D1), name(2, 1), paper(3, 3, D3), name(3, 1)]
        self.check(known, [[1, 2], [3]])

    def test_refusals(self):
        self.check_missing([paper(1, 1, D0)], alike)

    def test_asking_changes_nothing(self):
        self.check_asks_only(alike(4), alike(1), alike(3), alike(777))


if __name__ == "__main__":
    unittest.main()
