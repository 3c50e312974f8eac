"""The call 12, why: what keeps a paper from giving its date, and which hindrance is told first."""

import unittest

from tests.lines import (
    D0, D1, D2, LineTest, closed, day, field, give, hand, name, paper, part, publish, rest, run, why, withdraw,
)

LIMIT = (2021, 3, 2)
LATE = (2021, 3, 3)


class AnswerTest(LineTest):
    """Paper 1 of 1 is older; paper 2 of 1 is asked about; paper 3 of 1 names it."""

    def check(self, expected, known, box=(1,), date=D2, who=1):
        calls = [field(3), paper(2, 1, D1, (1, 2)), paper(3, who, date, (1, 2, 4))]
        self.check_last([expected], *calls, *known, why(3, 2, box))

    def test_0_it_gives_its_date(self):
        self.check(0, [name(3, 2)])
        self.check(0, [name(3, 2)], date=LIMIT)
        self.check(0, [name(3, 2)], date=D1)

    def test_0_for_a_box_that_n_does_not_disclose(self):
        self.check_last([0], field(3), paper(2, 1, D1, (1, 2)), paper(3, 1, D2, (4,)), name(3, 2), why(3, 2, (2,)))

    def test_0_whatever_day_the_box_has_from_another(self):
        known = [name(3, 2), paper(5, 2, D0), hand(1, 5, 2, 1, D0), name(3, 5)]
        self.check(0, known)
        calls = [field(3), paper(2, 1, D1, (1, 2)), paper(3, 1, D2, (1, 2, 4))]
        self.check_last([0, *D0, 5], *calls, *known, day(3))

    def test_1_it_is_not_named(self):
        self.check(1, [])
        self.check(1, [name(3, 2), give(3, 2)])
        self.check(1, [paper(4, 1, D2), name(4, 2)])

    def test_2_the_box_is_not_disclosed(self):
        self.check(2, [name(3, 2)], box=(4,))
        self.check(2, [name(3, 2)], box=(3,))

    def test_3_behind_the_limit(self):
        self.check(3, [name(3, 2)], date=LATE)
        self.check(0, [name(3, 2), closed(*LIMIT)], date=LATE)
        self.check(0, [name(3, 2), rest(1)], date=LATE)

    def test_4_it_is_not_first(self):
        older = [name(3, 2), paper(1, 1, D0)]
        self.check(4, older)
        self.check(0, older, box=(2,))
        self.check(0, older + [withdraw(1, D1)])
        self.check(4, older + [withdraw(1, D1), publish(1, D1)])
        self.check(4, older + [withdraw(1, D1, 1)])
        self.check(4, older + [withdraw(1, D1), name(2, 1)])

    def test_5_the_right_is_missing(self):
        self.check(5, [name(3, 2)], who=2)
        self.check(0, [name(3, 2), hand(1, 2, 1, 2, D2)], who=2)
        self.check(5, [name(3, 2), hand(1, 2, 1, 2, LIMIT)], who=2)
        self.check(5, [name(3, 2), hand(1, 2, 1, 2, D2, (2,))], who=2)
        self.check(5, [name(3, 2), hand(1, 2, 1, 2, D2)])

    def test_the_first_of_several(self):
        # All five are so, then one after another is mended.
        calls = [field(3), paper(1, 1, D0, (1, 4)), paper(2, 1, D1, (1, 2)), paper(3, 2, LATE, (1,))]
        self.check_last([1], *calls, why(3, 2, (4,)))
        calls += [name(3, 2)]
        self.check_last([2], *calls, why(3, 2, (4,)))
        self.check_last([3], *calls, why(3, 2, (1,)))
        calls += [closed(*LIMIT)]
        self.check_last([2], *calls, why(3, 2, (4,)))
        self.check_last([4], *calls, why(3, 2, (1,)))
        self.check_last([5], *calls, why(3, 2, (2,)))
        calls += [withdraw(1, D0)]
        self.check_last([5], *calls, why(3, 2, (1,)))
        self.check_last([0], *calls, hand(1, 2, 1, 2, LATE), why(3, 2, (1,)))

    def test_pairs_of_which_the_first_is_told(self):
        older = paper(1, 1, D0)
        taken = hand(1, 2, 1, 9, D1)
        self.check(1, [], box=(4,))
        self.check(1, [], date=LATE)
        self.check(1, [older])
        self.check(1, [taken])
        self.check(2, [name(3, 2)], box=(4,), date=LATE)
        self.check(2, [name(3, 2), taken], box=(4,))
        self.check(3, [name(3, 2), older], date=LATE)
        self.check(3, [name(3, 2), taken], date=LATE)
        self.check(4, [name(3, 2), older, taken])

    def test_not_named_and_not_disclosed_either(self):
        self.check(1, [], box=(4,))
        self.check(1, [], box=(3,))

    def test_a_parted_paper_names_none(self):
        known = [name(3, 2), part(4, 3, D2, (1,))]
        calls = [field(3), paper(2, 1, D1, (1, 2)), paper(3, 1, D2, (1, 2, 4)), *known]
        self.assertEqual(run(calls + [why(4, 2), why(4, 3), why(4, 4), why(3, 2), day(4)])[len(calls):], [
            [1], [1], [1], [0], [0, *D1, 2],
        ])

    def test_a_parted_paper_may_give_its_date(self):
        known = [field(3), paper(1, 1, D1, (1, 2)), part(2, 1, D1, (2,)), paper(3, 1, D2, (1, 2)), name(3, 2)]
        self.check_each(known, [(why(3, 2, (2,)), [0]), (why(3, 2, (1,)), [2]), (why(3, 1, (2,)), [1])])

    def test_a_paper_and_itself(self):
        self.check_each([paper(2, 1, D1)], [(why(2, 2), [1]), (why(2, 2, (3,)), [1])])

    def test_the_other_way_round(self):
        self.check_last([1], paper(1, 1, D1), paper(2, 1, D1), name(2, 1), why(1, 2))


class RefusalTest(LineTest):
    KNOWN = [field(3), paper(1, 1, D0, (1, 2)), paper(2, 1, D1, (1,)), name(2, 1)]

    def test_a_box_must_have_the_form(self):
        self.check_box_forms(lambda box: why(1, 1, box))

    def test_there_must_be_both_papers(self):
        self.check_missing(self.KNOWN, lambda missing: why(missing, 1))
        self.check_missing(self.KNOWN, lambda missing: why(1, missing))
        self.check_missing(self.KNOWN, lambda missing: why(missing, missing))

    def test_which_refusal_comes_first(self):
        self.check_each(self.KNOWN, [(why(777, 1, (8,)), [-4]), (why(1, 777, ()), [-4]), (why(777, 1, (3,)), [-5])])

    def test_a_box_that_neither_discloses_is_no_refusal(self):
        self.check_each(self.KNOWN, [(why(2, 1, (7,)), [2]), (why(1, 2, (7,)), [1])])

    def test_asking_changes_nothing(self):
        self.check_asks_only(why(4, 2), why(4, 1), why(4, 2, (4,)), why(5, 2), why(777, 1), why(4, 2, (8,)))


if __name__ == "__main__":
    unittest.main()
