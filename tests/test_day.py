"""The call 10, day: where the day of a box comes from."""

import unittest

from tests.lines import (
    LEAST, MOST, LineTest, closed, day, field, give, hand, name, paper, part, publish, rest, run, withdraw,
)

D0 = (2020, 1, 7)
D1 = (2020, 3, 2)
D2 = (2020, 9, 1)
D3 = (2020, 9, 2)


def behind(date):
    """A day later, within a month."""
    return (date[0], date[1], date[2] + 1)


class RefusalTest(LineTest):
    KNOWN = [field(3), paper(1, 1, D1, (1, 2)), paper(2, 1, D2, (1, 4)), part(3, 2, D2, (4,))]

    def test_a_box_must_have_the_form(self):
        for box in ((), (0,), (8,), (-1,), (1, 2), (1, 1), (LEAST,), (MOST,), range(1, 81)):
            self.check_each(self.KNOWN, [(day(1, box), [-4])])
        self.check_each([field(2, 3), paper(1, 1, D1, (1, 2, 3, 7))], [
            (day(1, (1, 2)), [0, *D1, 1]), (day(1, (3, 7)), [0, *D1, 1]), (day(1, (1,)), [-4]),
            (day(1, (1, 2, 3)), [-4]), (day(1, (1, 2, 3, 7)), [-4]), (day(1, (4, 1)), [-4]), (day(1, (1, 8)), [-4]),
            (day(1, (0, 1)), [-4]), (day(1, (1, 0)), [-4]), (day(1, (2, 1)), [-7]), (day(1, (1, 7)), [-7]),
        ])

    def test_there_must_be_the_paper(self):
        for missing in (0, 4, -1, 1000, LEAST, MOST):
            self.check_each(self.KNOWN, [(day(missing), [-5])])

    def test_the_paper_must_disclose_the_box(self):
        self.check_each(self.KNOWN, [
            (day(1, (3,)), [-7]), (day(1, (4,)), [-7]), (day(2, (2,)), [-7]), (day(3, (1,)), [-7]),
            (day(3, (4,)), [0, *D2, 2]),
        ])

    def test_which_refusal_comes_first(self):
        self.check_each(self.KNOWN, [(day(99, (8,)), [-4]), (day(99, (3,)), [-5]), (day(1, (3,)), [-7])])

    def test_asking_changes_nothing(self):
        known = self.KNOWN + [name(2, 1)]
        asked = [day(2), day(2, (4,)), day(3, (4,))]
        expected = run(known + asked)[-3:]
        more = [day(2), day(1), day(99), day(2, (8,)), day(2, (2,))]
        self.assertEqual(run(known + more + asked)[-3:], expected)


class NamedTest(LineTest):
    def test_a_papers_own_day(self):
        self.check_last([0, *D1, 1], paper(1, 1, D1), day(1))
        self.check_last([0, *D2, 2], paper(1, 1, D1), paper(2, 1, D2), day(2))

    def test_a_day_from_a_named_paper(self):
        known = [paper(1, 1, D1, (1, 2)), paper(2, 1, D2, (1, 3)), name(2, 1)]
        self.check_each(known, [(day(2, (1,)), [0, *D1, 1]), (day(2, (3,)), [0, *D2, 2]), (day(1), [0, *D1, 1])])

    def test_a_box_is_alike_only_if_all_its_numbers_are(self):
        known = [field(2, 2), paper(1, 1, D1, (3, 1, 1, 2)), paper(2, 1, D2, (3, 1, 1, 1, 3, 2, 2, 1)), name(2, 1)]
        self.check_each(known, [
            (day(2, (3, 1)), [0, *D1, 1]), (day(2, (1, 1)), [0, *D2, 2]), (day(2, (3, 2)), [0, *D2, 2]),
            (day(2, (2, 1)), [0, *D2, 2]),
        ])

    def test_on_the_limit_and_a_day_behind(self):
        for last_day, settings in (
            ((2021, 3, 2), []), ((2021, 3, 3), [closed(2021, 3, 2)]), ((2021, 3, 4), [rest(1, 2)]),
        ):
            known = settings + [paper(1, 1, D1)]
            late = behind(last_day)
            self.check_last([0, *D1, 1], *known, paper(2, 1, last_day), name(2, 1), day(2))
            self.check_last([0, *late, 2], *known, paper(2, 1, late), name(2, 1), day(2))

    def test_the_naming_papers_own_day_may_be_closed(self):
        known = [closed(2021, 3, 2), closed(2021, 3, 1), rest(0, 1), paper(1, 1, D1)]
        self.check_last([0, *D1, 1], *known, paper(2, 1, (2021, 3, 1)), name(2, 1), day(2))
        self.check_last([0, *D1, 1], *known, paper(2, 1, (2021, 3, 2)), name(2, 1), day(2))

    def test_the_earliest_counts(self):
        known = [paper(1, 1, D1, (1,)), paper(2, 2, D0, (1,)), paper(3, 3, D2, (1,)), paper(4, 1, D3, (1,))]
        known += [hand(1, 2, 2, 1, D0), hand(2, 3, 3, 1, D2), name(4, 1), name(4, 3)]
        self.check_last([0, *D1, 1], *known, day(4))
        self.check_last([0, *D0, 2], *known, name(4, 2), day(4))
        self.check_last([0, *D2, 3], *known, give(4, 1), day(4))

    def test_the_earliest_that_gives_counts(self):
        known = [paper(1, 1, D1, (1,)), paper(2, 2, D0, (1,)), paper(4, 1, D3, (1,)), name(4, 1), name(4, 2)]
        self.check_last([0, *D1, 1], *known, day(4))

    def test_several_papers_that_give_the_same_day(self):
        numbers = (30, 7, 19)
        for first, second, third in ((30, 7, 19), (7, 19, 30), (19, 30, 7)):
            known = [paper(n, 1, D1) for n in numbers] + [paper(3, 1, D2)]
            self.check_last([0, *D1, 7], *known, name(3, first), name(3, second), name(3, third), day(3))
        known = [paper(n, 1, D1) for n in numbers] + [paper(3, 1, D2), name(3, 30), name(3, 19)]
        self.check_last([0, *D1, 19], *known, day(3))

    def test_the_least_number_is_sought_among_those_that_give_the_day(self):
        known = [paper(30, 1, D0), paper(2, 2, D0), paper(1, 3, D1), paper(3, 1, D2)]
        known += [name(3, 30), name(3, 2), name(3, 1), hand(1, 1, 3, 1, D1)]
        self.check_last([0, *D0, 30], *known, day(3))
        self.check_last([0, *D0, 2], *known, hand(2, 2, 2, 1, D0), day(3))

    def test_its_own_date_goes_before_a_least_number(self):
        known = [paper(1, 1, D1), paper(2, 1, D1), name(2, 1)]
        self.check_last([0, *D1, 2], *known, day(2))

    def test_a_named_paper_gives_its_own_date_not_what_it_got(self):
        known = [paper(1, 1, D0), paper(2, 1, D1), paper(3, 1, D2), name(2, 1), name(3, 2)]
        found = run(known + [day(2), day(3)])
        self.assertEqual(found[-2:], [[0, *D0, 1], [0, *D2, 3]])
        others = [paper(1, 1, D0), paper(2, 2, D1), hand(1, 1, 1, 2, D0), paper(3, 2, D2), name(2, 1), name(3, 2)]
        self.assertEqual(run(others + [day(2), day(3)])[-2:], [[0, *D0, 1], [0, *D1, 2]])

    def test_a_parted_paper_that_is_named_gives_its_own_date(self):
        known = [paper(1, 1, D0, (1,)), paper(2, 2, D1, (1,)), hand(1, 1, 1, 2, D0), name(2, 1), part(3, 2, D1)]
        known += [paper(4, 2, D2), name(4, 3)]
        self.assertEqual(run(known + [day(3), day(4)])[-2:], [[0, *D0, 1], [0, *D1, 3]])

    def test_a_paper_that_is_not_named_gives_nothing(self):
        known = [paper(1, 1, D1), paper(2, 1, D2), paper(3, 1, D2), name(3, 1)]
        self.check_last([0, *D2, 2], *known, day(2))


class FirstTest(LineTest):
    """Paper 3 of D3 names paper 2 of D2; paper 1 of D1 is older."""

    FIRST = [0, *D2, 2]
    OWN = [0, *D3, 3]

    def check(self, expected, known, who=1, boxes=(1,), filed=D1):
        calls = [paper(1, who, filed, boxes), paper(2, 1, D2), paper(3, 1, D3), name(3, 2)]
        self.check_last(expected, *calls, *known, day(3))

    def test_an_older_paper(self):
        self.check(self.OWN, [])

    def test_an_older_paper_of_somebody_else(self):
        self.check(self.FIRST, [], who=2)

    def test_an_older_paper_of_other_boxes(self):
        self.check(self.FIRST, [], boxes=(2, 3))
        self.check(self.OWN, [], boxes=(2, 1))

    def test_a_paper_of_the_same_date_is_not_older(self):
        self.check(self.FIRST, [], filed=D2)
        self.check(self.OWN, [], filed=(2020, 8, 31))

    def test_an_older_paper_of_long_ago(self):
        self.check(self.OWN, [], filed=(1900, 1, 1))

    def test_withdrawn_without_rights_left(self):
        self.check(self.FIRST, [withdraw(1, D1)])
        self.check(self.FIRST, [withdraw(1, D2)])
        self.check(self.OWN, [withdraw(1, D3)])

    def test_withdrawn_with_rights_left(self):
        self.check(self.OWN, [withdraw(1, D1, 1)])
        self.check(self.OWN, [withdraw(1, D2, 1)])

    def test_withdrawn_and_published(self):
        self.check(self.OWN, [withdraw(1, D1), publish(1, D1)])
        self.check(self.OWN, [withdraw(1, D1), publish(1, D2)])
        self.check(self.FIRST, [withdraw(1, D1), publish(1, D3)])

    def test_published_only(self):
        self.check(self.OWN, [publish(1, D3)])

    def test_withdrawn_and_named_on(self):
        self.check(self.OWN, [withdraw(1, D1), paper(4, 9, D1, (2,)), name(4, 1)])
        self.check(self.OWN, [withdraw(1, D1), paper(4, 9, D2, (2,)), name(4, 1)])
        self.check(self.FIRST, [withdraw(1, D1), paper(4, 9, D3, (2,)), name(4, 1)])

    def test_withdrawn_and_named_by_the_paper_itself(self):
        self.check(self.OWN, [withdraw(1, D1), name(2, 1)])

    def test_withdrawn_and_named_no_more(self):
        self.check(self.FIRST, [withdraw(1, D1), paper(4, 9, D1, (2,)), name(4, 1), give(4, 1)])

    def test_withdrawn_and_named_by_the_paper_whose_day_is_asked(self):
        self.check([0, *D1, 1], [withdraw(1, D1), name(3, 1)])

    def test_a_withdrawn_paper_itself_may_give_its_date(self):
        self.check(self.FIRST, [withdraw(2, D2), publish(2, D2)], who=2)
        self.check(self.FIRST, [withdraw(2, D2, 1)], who=2)

    def test_each_older_paper_counts(self):
        self.check(self.OWN, [withdraw(1, D1), paper(4, 1, D0)])
        self.check(self.OWN, [paper(4, 1, D0), withdraw(4, D0)])
        self.check(self.FIRST, [withdraw(1, D1), paper(4, 1, D0), withdraw(4, D1)])

    def test_first_is_for_each_box_by_itself(self):
        known = [paper(1, 1, D1, (1,)), paper(2, 1, D2, (1, 2)), paper(3, 1, D3, (1, 2)), name(3, 2)]
        self.check_each(known, [(day(3, (1,)), self.OWN), (day(3, (2,)), self.FIRST)])

    def test_it_is_whoever_filed_the_named_paper_that_counts(self):
        known = [paper(1, 1, D1), paper(2, 2, D2), hand(1, 2, 2, 1, D2), paper(3, 1, D3), name(3, 2)]
        self.check_last(self.FIRST, *known, day(3))
        self.check_last(self.OWN, *known, paper(4, 2, D1), day(3))

    def test_a_deed_does_not_change_who_filed_it(self):
        known = [hand(1, 1, 1, 2, D1), hand(2, 1, 1, 3, D1)]
        self.check(self.OWN, known)

    def test_an_older_parted_paper_counts(self):
        known = [paper(1, 1, D0), part(4, 1, D1), paper(2, 1, D2), paper(3, 1, D3), name(3, 2)]
        self.check_last(self.OWN, *known, withdraw(1, D1), day(3))
        self.check_last(self.OWN, *known, withdraw(4, D1), day(3))
        self.check_last(self.FIRST, *known, withdraw(1, D1), withdraw(4, D1), day(3))

    def test_a_parted_paper_is_first_only_if_its_parent_left_no_trace_or_is_of_the_same_date(self):
        known = [paper(1, 1, D1), part(2, 1, D2), paper(3, 1, D3), name(3, 2)]
        self.check_last(self.OWN, *known, day(3))
        self.check_last(self.FIRST, *known, withdraw(1, D2), day(3))
        same = [paper(1, 1, D2), part(2, 1, D2), paper(3, 1, D3), name(3, 2)]
        self.check_last(self.FIRST, *same, day(3))


class PartedTest(LineTest):
    KNOWN = [paper(1, 1, D0, (1, 2)), paper(2, 1, D1, (1, 2, 3)), name(2, 1)]

    def test_it_has_the_days_of_its_root(self):
        known = self.KNOWN + [part(5, 2, D2, (1, 3))]
        self.check_each(known, [(day(5, (1,)), [0, *D0, 1]), (day(5, (3,)), [0, *D1, 2])])

    def test_parted_from_a_parted_one(self):
        known = self.KNOWN + [part(5, 2, D2, (1, 3)), part(4, 5, D3, (3, 1)), part(6, 4, (2030, 1, 1), (1,))]
        self.check_each(known, [
            (day(4, (1,)), [0, *D0, 1]), (day(4, (3,)), [0, *D1, 2]), (day(6, (1,)), [0, *D0, 1]),
        ])

    def test_a_long_row_of_parted_papers(self):
        known = [paper(1, 1, D0)] + [part(n, n - 1, D0) for n in range(2, 25)]
        self.check_last([0, *D0, 1], *known, day(24))

    def test_a_name_of_the_root_that_becomes_known_later(self):
        known = [paper(1, 1, D0), paper(2, 1, D1), part(3, 2, D2), part(4, 3, D2)]
        self.check_last([0, *D1, 2], *known, day(4))
        self.check_last([0, *D0, 1], *known, name(2, 1), day(4))
        self.check_last([0, *D1, 2], *known, name(2, 1), give(2, 1), day(4))

    def test_it_was_filed_by_whoever_filed_its_parent(self):
        # Paper 3 is parted from a paper of 7, so it's an older one of 7 that keeps paper 4 from being first.
        known = [paper(1, 7, D0), part(2, 1, D0), part(3, 2, D0), withdraw(1, D0), withdraw(2, D0)]
        known += [paper(4, 7, D1), paper(5, 7, D2), name(5, 4)]
        self.check_last([0, *D2, 5], *known, day(5))
        self.check_last([0, *D1, 4], *known, withdraw(3, D0), day(5))

    def test_the_limit_and_the_right_are_those_of_the_roots_date(self):
        known = [paper(1, 1, D0), paper(2, 2, D1), name(2, 1), hand(1, 1, 1, 2, D1), hand(2, 1, 2, 9, D2)]
        known += [part(3, 2, (2025, 1, 1))]
        self.check_last([0, *D0, 1], *known, day(3))


if __name__ == "__main__":
    unittest.main()
