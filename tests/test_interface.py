"""The interface: how a line is read and answered, and that nothing is changed or kept."""

import unittest

from prioritybook.papers import answers
from tests.lines import (
    LEAST, MOST, OK, LineTest, alike, claim, closed, could, cut_apart, day, days, family, field, first, give, hand,
    holder, limit, listed, lost, name, paper, part, publish, rest, run, told, why, withdraw,
)

D1 = (2020, 3, 2)
D2 = (2020, 9, 1)

ALL_KEPT = [
    field(2, 3), rest(5, 6), closed(2021, 3, 2), paper(1, 4, D1, (1, 1, 2, 7)), paper(2, 4, D2, (1, 1, 3, 4)),
    part(3, 2, D2, (3, 4)), name(2, 1), hand(1, 1, 4, 5, D2, (2, 7)), publish(1, D2), withdraw(1, D2, 1),
    day(2, (1, 1)), day(3, (3, 4)), give(2, 1), day(2, (1, 1)),
]

ALL_ASKED = [
    days(2), why(2, 1, (1, 1)), limit(1), first(4, (1, 1)), holder(1, D2, (2, 7)), family(3), alike(3), lost(2, 1),
    could(5, D2, (2, 7)), claim(2, (3, 4, 1, 1)), told(2),
]
# All 22 calls, with two papers; the name is given up at the end.
ALL_CALLS = ALL_KEPT[:11] + ALL_ASKED + [give(2, 1)]

# The calls from 11 on, each with as many numbers as the interface tells, the list for each call that has one.
LATER_CALLS = [
    [11, 500], [12, 500, 600] + listed([700]), [13, 500], [14, 500] + listed([700, 800]),
    [15, 500, 2020, 100, 200] + listed([700]), [16, 500], [17, 500], [18, 500, 600],
    [19, 500, 2020, 100, 200] + listed([]), [20, 500] + listed([700, 800, 900]), [21, 500],
]


def joined(calls):
    return [number for call in calls for number in call]


class InterfaceTest(LineTest):
    def test_answers_stand_one_behind_another_with_their_counts(self):
        line = joined([paper(7, 1, D1), day(7), day(8), closed(2021, 1, 1)])
        self.assertEqual(answers(line), [1, 1, 5, 0, 2020, 3, 2, 7, 1, -5, 1, 0])

    def test_the_very_numbers_of_the_interface(self):
        line = [0, 2, 2, 3, 1, 2, 5, 6, 2, 2021, 3, 2, 3, 1, 4, 2020, 3, 2, 4, 1, 1, 2, 7]
        line += [3, 2, 4, 2020, 9, 1, 4, 1, 1, 3, 4, 4, 3, 2, 2020, 9, 1, 2, 3, 4, 5, 2, 1]
        line += [9, 1, 1, 4, 5, 2020, 9, 1, 2, 2, 7, 8, 1, 2020, 9, 1, 7, 1, 2020, 9, 1, 1]
        line += [10, 2, 2, 1, 1, 10, 3, 2, 3, 4, 6, 2, 1, 10, 2, 2, 1, 1]
        self.assertEqual(line, joined(ALL_KEPT))
        expected = [1, 0, 1, 0, 1, 0, 1, 1, 1, 2, 1, 3, 1, 0, 1, 0, 1, 0, 1, 0]
        expected += [5, 0, 2020, 3, 2, 1, 5, 0, 2020, 9, 1, 2, 1, 0, 5, 0, 2020, 9, 1, 2]
        self.assertEqual(answers(line), expected)

    def test_the_very_numbers_of_the_calls_that_ask(self):
        line = [11, 2, 12, 2, 1, 2, 1, 1, 13, 1, 14, 4, 2, 1, 1, 15, 1, 2020, 9, 1, 2, 2, 7, 16, 3, 17, 3, 18, 2, 1]
        line += [19, 5, 2020, 9, 1, 2, 2, 7, 20, 2, 4, 3, 4, 1, 1, 21, 2]
        self.assertEqual(line, joined(ALL_ASKED))

    def test_all_22_calls_in_one_list(self):
        self.assertEqual({call[0] for call in ALL_CALLS}, set(range(22)))
        expected = [1, 0, 1, 0, 1, 0, 1, 1, 1, 2, 1, 3, 1, 0, 1, 0, 1, 0, 1, 0, 5, 0, 2020, 3, 2, 1]
        expected += [9, 2, 2020, 3, 2, 1, 2020, 9, 1, 2, 1, 0, 4, 0, 2021, 3, 3, 2, 0, 1, 1, 5]
        expected += [4, 0, 1, 2, 3, 2, 0, 3, 5, 0, 0, 2020, 9, 1, 5, 0, 2020, 3, 2, 1]
        expected += [9, 2, 2020, 3, 2, 1, 2020, 9, 1, 1, 14, 4, 2020, 9, 1, 0, 2, 1, 1, 3, 4, 1, 1, 0, 0, 1, 0]
        self.assertEqual(answers(joined(ALL_CALLS)), expected)

    def test_the_kinds_of_what_is_given_back(self):
        given = answers(joined(ALL_CALLS + ALL_ASKED))
        self.assertIs(type(given), list)
        self.assertEqual({type(number) for number in given}, {int})

    def test_the_list_is_as_it_was(self):
        line = joined(ALL_CALLS)
        before = list(line)
        answers(line)
        self.assertEqual(line, before)

    def test_the_list_is_not_changed_for_a_while_either(self):
        class Watched(list):
            def refuse(self, *args, **kwargs):
                raise AssertionError("the list is changed")

            __setitem__ = __delitem__ = __iadd__ = __imul__ = refuse
            append = extend = insert = pop = remove = clear = sort = reverse = refuse

        self.assertEqual(answers(Watched(joined(ALL_CALLS))), answers(joined(ALL_CALLS)))

    def test_an_answer_shares_nothing_with_the_next(self):
        line = joined(ALL_CALLS)
        given = answers(line)
        expected = list(given)
        given.clear()
        self.assertEqual(answers(line), expected)

    def test_nothing_is_kept_from_one_time_to_the_next(self):
        kept = joined([field(3, 3), rest(0, 1, 2), closed(2021, 1, 1), paper(1, 1, D1, (1, 1)), hand(1, 1, 1, 2, D1)])
        asked = [paper(1, 1, D1), hand(1, 1, 1, 2, D1), day(1)]
        expected = [[1], OK, [0, *D1, 1]]
        self.assertEqual(run(asked), expected)
        answers(kept)
        self.assertEqual(run(asked), expected)
        self.assertEqual(answers(kept), answers(kept))

    def test_two_runs_one_after_another_answer_alike(self):
        line = joined(ALL_CALLS * 15)
        expected = answers(line)
        self.assertEqual(answers(line), expected)
        answers(joined([rest(0, 1, 2, 3, 4, 5), paper(1, 9, D2), paper(2, 9, D2), name(2, 1), limit(1), days(2)]))
        self.assertEqual(answers(line), expected)

    def test_a_refused_last_call_keeps_nothing_either(self):
        answers(paper(1, 1, D1) + paper(1, 1, D1))
        self.assertEqual(run([paper(1, 1, D1)]), [[1]])

    def test_before_the_first_call(self):
        self.check_each([], [
            (paper(1, 1, D1, (1, 2, 3)), [1]),
            (paper(1, 1, D1, (4,)), [-4]),
            (day(1), [-5]),
            (name(1, 2), [-5]),
            (hand(1, 1, 1, 2, D1), [-5]),
            (first(1, (3,)), [0]),
            (first(1, (4,)), [-4]),
            (could(1, D1, (2,)), [0, *D1, 0]),
        ])
        for call in (days(1), why(1, 1), limit(1), holder(1, D1), family(1), alike(1), lost(1, 1), claim(1), told(1)):
            self.check_each([], [(call, [-5])])

    def test_a_field_in_the_middle_makes_all_empty(self):
        for calls in (ALL_KEPT, ALL_CALLS):
            found = run(calls + [field(2)] + calls)
            self.assertEqual(found[:len(calls)], found[len(calls) + 1:])

    def test_each_call_is_read_to_its_end(self):
        for call in LATER_CALLS + ALL_KEPT + ALL_ASKED:
            with self.subTest(call=call):
                found = run([call, field(1), paper(5, 2, D1), day(5)])
                self.assertEqual(found[1:], [OK, [1], [0, *D1, 5]])

    def test_lists_of_each_length_are_read_to_their_end(self):
        for length in range(81):
            numbers = [MOST] * length
            calls = [field(*numbers), rest(*numbers), paper(1, 1, D1, numbers), part(1, 2, D1, numbers),
                     hand(1, 1, 1, 1, D1, numbers), day(1, numbers), why(1, 1, numbers), first(1, numbers),
                     holder(1, D1, numbers), could(1, D1, numbers), claim(1, numbers), paper(5, 2, D1), day(5)]
            with self.subTest(length=length):
                found = run(calls)
                self.assertEqual(len(found), len(calls))
                self.assertEqual(found[-2:], [[1], [0, *D1, 5]])

    def test_whole_numbers_at_both_ends(self):
        for end in (LEAST, MOST):
            self.check_each([paper(1, 1, D1)], [
                (field(end), [-4]), (rest(end), [-4]), (closed(end, end, end), [-2]),
                (paper(end, end, (end, end, end), (end,)), [-3]), (paper(end, 1, D1), [-3]),
                (paper(2, end, D1), [-3]), (paper(2, 1, D1, (end,)), [-4]),
                (part(end, 1, D1), [-3]), (part(2, end, D1), [-5]), (part(2, 1, D1, (end,)), [-4]),
                (name(end, 1), [-5]), (name(1, end), [-5]), (give(end, 1), [-5]), (give(1, end), [-5]),
                (withdraw(end, D1), [-5]), (withdraw(1, D1, end), [-3]), (publish(end, D1), [-5]),
                (hand(end, 1, 1, 1, D1), [-3]), (hand(1, end, 1, 1, D1), [-5]), (hand(1, 1, end, 1, D1), [-3]),
                (hand(1, 1, 1, end, D1), [-3]), (hand(1, 1, 1, 1, D1, (end,)), [-4]),
                (day(end), [-5]), (day(1, (end,)), [-4]),
                (days(end), [-5]), (why(end, 1), [-5]), (why(1, end), [-5]), (why(1, 1, (end,)), [-4]),
                (limit(end), [-5]), (first(end), [-3]), (first(1, (end,)), [-4]), (holder(end, D1), [-5]),
                (holder(1, (end, end, end)), [-2]), (holder(1, D1, (end,)), [-4]), (family(end), [-5]),
                (alike(end), [-5]), (lost(end, 1), [-5]), (lost(1, end), [-5]), (could(end, D1), [-3]),
                (could(1, (end, end, end)), [-2]), (could(1, D1, (end,)), [-4]), (claim(end), [-5]),
                (claim(1, (end,)), [-4]), (told(end), [-5]),
            ])

    def test_a_line_of_400_calls(self):
        calls = [paper(1, 1, D1)] + [day(1)] * 399
        line = joined(calls)
        self.assertEqual(cut_apart(answers(line)), [[1]] + [[0, *D1, 1]] * 399)

    def test_400_calls_of_all_kinds(self):
        calls = ALL_CALLS * 17 + [told(1)] * 9
        self.assertEqual(len(calls), 400)
        expected = run(ALL_CALLS) * 17
        end = [4, *D1, 0, 2, 1, 1, 2, 7, 0, 1, *D2, 1, 1, *D2]
        self.assertEqual(run(calls), expected + [end] * 9)

    def test_400_calls_of_one_kind(self):
        known = [call for call in ALL_CALLS if call[0] < 10 and call[0] != 6]
        for call in ALL_ASKED:
            count = 400 - len(known)
            with self.subTest(call=call):
                found = run(known + [call] * count)[len(known):]
                self.assertEqual(found, run(known + [call])[len(known):] * count)

    def test_a_line_of_one_call(self):
        self.assertEqual(answers([5, 1, 2]), [1, -5])


if __name__ == "__main__":
    unittest.main()
