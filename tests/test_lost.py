"""The call 18, lost: what another day the boxes of a paper would have if its root didn't name a paper."""

import unittest

from tests.lines import (
    D0, D1, D2, D3, LineTest, day, days, field, give, hand, lost, name, paper, part, run, why, withdraw,
)

# Paper 3 has the boxes 1 and 7 from paper 1, the box 2 from paper 2, the box 4 from itself.
KNOWN = [field(3), paper(1, 1, D0, (1, 7)), paper(2, 1, D1, (2, 3)), paper(3, 1, D2, (4, 7, 2, 1)), name(3, 1),
         name(3, 2)]


class LostTest(LineTest):
    def test_days_that_become_later_and_days_that_stay(self):
        self.check_each(KNOWN, [(lost(3, 1), [0, 1, *D2, 3, *D2]), (lost(3, 2), [0, 2, *D2])])

    def test_a_day_that_comes_from_another_then(self):
        known = [paper(1, 1, D0), paper(2, 2, D1), hand(1, 2, 2, 1, D1), paper(3, 1, D2), name(3, 1), name(3, 2)]
        self.check_each(known, [(lost(3, 1), [0, 0, *D1]), (lost(3, 2), [0])])

    def test_the_same_day_from_another_is_not_lost(self):
        known = [paper(1, 1, D0), paper(2, 1, D0), paper(3, 1, D2), name(3, 1), name(3, 2)]
        self.check_each(known, [(lost(3, 1), [0]), (lost(3, 2), [0])])
        self.check_each(known + [give(3, 2)], [(lost(3, 1), [0, 0, *D2])])

    def test_an_older_paper_that_left_no_trace_does_not_keep_the_next_from_being_first(self):
        known = [paper(1, 1, D0), withdraw(1, D0), paper(2, 1, D1), paper(3, 1, D2), name(3, 1), name(3, 2)]
        self.check_each(known, [(lost(3, 1), [0, 0, *D1]), (lost(3, 2), [0])])

    def test_a_name_that_gives_nothing(self):
        known = [paper(1, 1, D0), paper(2, 1, D1), paper(3, 1, D3), name(3, 1), name(3, 2)]
        self.check_each(known, [(lost(3, 1), [0]), (lost(3, 2), [0])])
        self.check_each([paper(1, 1, D1), paper(2, 1, D1), name(2, 1)], [(lost(2, 1), [0])])

    def test_a_paper_that_is_not_named(self):
        self.check_each(KNOWN, [(lost(3, 3), [0]), (lost(1, 2), [0]), (lost(2, 1), [0]), (lost(1, 3), [0])])
        self.check_each(KNOWN + [give(3, 1)], [(lost(3, 1), [0]), (lost(3, 2), [0, 2, *D2])])

    def test_a_parted_paper(self):
        known = KNOWN + [part(5, 3, D3, (1, 4, 2)), part(6, 5, D3, (2, 1)), part(8, 3, D3, (4,))]
        self.check_each(known, [
            (lost(5, 1), [0, 0, *D2]), (lost(5, 2), [0, 2, *D2]), (lost(6, 1), [0, 1, *D2]), (lost(6, 2), [0, 0, *D2]),
            (lost(8, 1), [0]), (lost(5, 3), [0]), (lost(6, 5), [0]), (lost(3, 5), [0]), (lost(5, 5), [0]),
        ])

    def test_a_parted_paper_that_is_named(self):
        known = [paper(1, 1, D0, (1, 2)), part(2, 1, D0, (2,)), paper(3, 1, D1, (1, 2)), name(3, 2)]
        self.check_each(known, [(lost(3, 2), [0, 1, *D1]), (lost(3, 1), [0])])

    def test_twelve_boxes(self):
        boxes = tuple(range(1, 13))
        known = [field(4), paper(1, 1, D0, boxes), paper(2, 1, D1, boxes[::-1]), name(2, 1)]
        expected = [0]
        for place in range(12):
            expected += [place, *D1]
        self.check_last(expected, *known, lost(2, 1))

    def test_it_is_what_giving_the_name_up_makes_of_the_days(self):
        for n, q in ((3, 1), (3, 2)):
            now = run(KNOWN + [days(n)])[-1][1:]
            then = run(KNOWN + [give(n, q), days(n)])[-1][1:]
            expected = [0]
            for place in range(0, len(now), 4):
                if now[place:place + 3] != then[place:place + 3]:
                    expected += [place // 4] + then[place:place + 3]
            self.check_last(expected, *KNOWN, lost(n, q))

    def test_refusals(self):
        self.check_missing(KNOWN, lambda missing: lost(missing, 1))
        self.check_missing(KNOWN, lambda missing: lost(3, missing))
        self.check_missing(KNOWN, lambda missing: lost(missing, missing))

    def test_asking_changes_nothing(self):
        self.check_asks_only(lost(4, 2), lost(4, 1), lost(5, 2), lost(6, 1), lost(4, 777), lost(777, 2))


class NeverEarlierTest(LineTest):
    """An older paper that leaves no trace without the name lets another be first; no day becomes earlier by it.

    The name leaves a trace only from the date of the naming paper on. Whatever is first only without it was filed on
    that date or later, and gives the naming paper no earlier day (promise 4).
    """

    KNOWN = [paper(1, 1, D0), withdraw(1, D0), paper(2, 1, D1), paper(3, 1, D1), name(3, 2), name(3, 1)]

    def test_another_becomes_first_and_the_day_is_later_all_the_same(self):
        asked = [why(3, 2), day(3), lost(3, 1), give(3, 1), why(3, 2), day(3)]
        self.assertEqual(run(self.KNOWN + asked)[len(self.KNOWN):], [
            [4], [0, *D0, 1], [0, 0, *D1], [0], [0], [0, *D1, 3],
        ])

    def test_another_becomes_first_and_the_day_stays(self):
        # 9 has the right to name paper 1, so paper 3 gets nothing from it.
        known = self.KNOWN + [hand(1, 1, 1, 9, D0)]
        asked = [why(3, 1), why(3, 2), day(3), lost(3, 1), give(3, 1), why(3, 2), day(3)]
        self.assertEqual(run(known + asked)[len(known):], [
            [5], [4], [0, *D1, 3], [0], [0], [0], [0, *D1, 3],
        ])

    def test_an_older_paper_without_a_trace_lets_a_paper_between_be_first_by_its_own_date(self):
        # The name of paper 4 leaves its trace behind paper 2's date, too late to keep paper 2 from being first.
        known = [paper(1, 1, D0), withdraw(1, D0), hand(1, 1, 1, 9, D0), paper(2, 1, D1), paper(4, 1, D2), name(4, 1),
                 name(4, 2)]
        self.check_each(known, [(day(4), [0, *D1, 2]), (lost(4, 1), [0]), (lost(4, 2), [0, 0, *D2])])


if __name__ == "__main__":
    unittest.main()
