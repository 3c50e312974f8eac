"""The calls 5 and 6: name, give."""

import unittest

from tests.lines import LEAST, MOST, OK, LineTest, day, give, name, paper, part, publish, run, withdraw

D1 = (2020, 3, 2)
D2 = (2020, 9, 1)
D3 = (2020, 9, 2)

KNOWN = [paper(1, 1, D1), paper(2, 1, D2), paper(3, 1, D2), part(4, 2, D3)]


class NameTest(LineTest):
    def test_ordinary(self):
        self.check_each(KNOWN, [(name(2, 1), OK), (name(3, 1), OK), (name(2, 3), OK), (name(3, 2), OK)])

    def test_there_must_be_both_papers(self):
        for missing in (0, 5, -1, 1000, LEAST, MOST):
            self.check_each(KNOWN, [
                (name(missing, 1), [-5]), (name(2, missing), [-5]), (name(missing, missing), [-5]),
            ])

    def test_a_parted_paper_names_none(self):
        self.check_each(KNOWN, [(name(4, 1), [-7]), (name(4, 2), [-7]), (name(4, 4), [-7])])

    def test_a_parted_paper_may_be_named(self):
        known = KNOWN + [paper(5, 1, D3), paper(6, 1, (2020, 9, 3))]
        self.check_each(known, [(name(5, 4), OK), (name(6, 4), OK), (name(2, 4), [-7])])

    def test_no_paper_names_itself(self):
        self.check_each(KNOWN, [(name(1, 1), [-7]), (name(2, 2), [-7])])

    def test_a_later_paper_is_not_named(self):
        self.check_each(KNOWN, [(name(1, 2), [-7]), (name(2, 4), [-7])])
        known = [paper(1, 1, (2020, 12, 31)), paper(2, 1, (2021, 1, 1)), paper(3, 1, (2020, 12, 31))]
        self.check_each(known, [(name(1, 2), [-7]), (name(2, 1), OK), (name(1, 3), OK), (name(3, 1), OK)])

    def test_whoever_filed_it_and_its_boxes_do_not_matter(self):
        known = [paper(1, 7, (1990, 1, 1), (1,)), paper(2, 1, D1, (2,))]
        self.check_each(known, [(name(2, 1), OK)])

    def test_a_withdrawn_or_published_paper_may_name_and_be_named(self):
        known = KNOWN + [withdraw(1, D1), publish(1, D1), withdraw(2, D3), publish(2, D2)]
        self.check_each(known, [(name(2, 1), OK)])

    def test_named_already(self):
        self.check_each(KNOWN + [name(2, 1)], [(name(2, 1), [-8]), (name(3, 1), OK)])
        self.check_each(KNOWN + [name(2, 1), give(2, 1)], [(name(2, 1), OK)])

    def test_8_names(self):
        known = [paper(n, 1, D1) for n in range(1, 11)]
        named = [name(10, n) for n in range(1, 9)]
        self.check_each(known + named[:7], [(name(10, 8), OK)])
        self.check_each(known + named, [(name(10, 9), [-9]), (name(10, 8), [-8]), (name(9, 10), OK)])
        self.check_each(known + named + [give(10, 3)], [(name(10, 9), OK), (name(10, 3), OK)])
        self.check_each(known + [name(n, 10) for n in range(1, 9)], [(name(9, 10), OK), (name(10, 9), OK)])

    def test_which_refusal_comes_first(self):
        known = [paper(n, 1, D1) for n in range(1, 10)] + [name(9, n) for n in range(1, 9)]
        known += [part(10, 9, D1), paper(11, 1, D2)]
        self.check_each(known, [
            (name(10, 99), [-5]), (name(99, 99), [-5]), (name(9, 9), [-7]), (name(9, 11), [-7]), (name(9, 1), [-8]),
            (name(9, 10), [-9]),
        ])

    def test_a_refusal_changes_nothing(self):
        known = KNOWN + [name(3, 1)]
        refused = [name(2, 99), name(99, 2), name(4, 1), name(2, 2), name(1, 2), name(3, 1), name(2, 4)]
        asked = [day(1), day(2), day(3), day(4), give(2, 1), give(4, 1), give(1, 2), give(3, 1), give(3, 1), day(3)]
        self.check_unchanged(known, refused, asked)
        full = [paper(n, 1, D2) for n in range(1, 9)] + [paper(9, 1, D1), paper(10, 1, D2)]
        full += [name(10, n) for n in range(1, 9)]
        self.check_unchanged(full, [name(10, 9)], [day(10), give(10, 9), give(10, 1), name(10, 9), day(10)])


class GiveTest(LineTest):
    def test_ordinary(self):
        known = KNOWN + [name(2, 1), name(2, 3)]
        self.check_last([0, *D1, 1], *known, day(2))
        self.check_each(known, [(give(2, 1), OK), (give(2, 3), OK)])
        self.check_last([0, *D2, 2], *known, give(2, 1), day(2))
        self.check_last([0, *D1, 1], *known, give(2, 3), day(2))
        self.check_last([0, *D1, 1], *known, give(2, 1), name(2, 1), day(2))

    def test_there_must_be_both_papers(self):
        for missing in (0, 5, -1, 1000, LEAST, MOST):
            self.check_each(KNOWN, [(give(missing, 1), [-5]), (give(2, missing), [-5])])

    def test_not_named(self):
        known = KNOWN + [name(2, 1)]
        self.check_each(known, [
            (give(2, 3), [-8]), (give(1, 2), [-8]), (give(3, 1), [-8]), (give(4, 1), [-8]), (give(2, 2), [-8]),
        ])
        self.check_each(known + [give(2, 1)], [(give(2, 1), [-8])])

    def test_a_refusal_changes_nothing(self):
        known = KNOWN + [name(2, 1)]
        refused = [give(2, 3), give(2, 99), give(99, 1), give(1, 2), give(4, 1), give(3, 1)]
        asked = [day(2), day(3), day(4), name(2, 1), name(3, 1), day(3)]
        self.check_unchanged(known, refused, asked)

    def test_other_papers_still_name_it(self):
        found = run(KNOWN + [name(2, 1), name(3, 1), give(2, 1), day(2), day(3)])
        self.assertEqual(found[-2:], [[0, *D2, 2], [0, *D1, 1]])


if __name__ == "__main__":
    unittest.main()
