"""The calls 3 and 4: paper, part."""

import unittest

from tests.lines import (
    BAD_DATES, GOOD_DATES, LEAST, MOST, LineTest, closed, day, field, hand, name, paper, part, publish, run, withdraw,
)

D1 = (2020, 3, 2)
D2 = (2020, 9, 1)
D3 = (2020, 9, 2)

ONE_BOX_MORE = [(number, 1) for number in range(1, 14)]


def flat(boxes):
    return [number for box in boxes for number in box]


class PaperTest(LineTest):
    def test_answers_how_many_there_are(self):
        self.assertEqual(run([paper(9, 1, D1), paper(3, 2, D1), paper(500, 1, D1)]), [[1], [2], [3]])

    def test_ranges(self):
        self.check_each([], [
            (paper(1, 1, D1), [1]), (paper(999, 1, D1), [1]), (paper(1, 20, D1), [1]), (paper(999, 20, D1), [1]),
            (paper(0, 1, D1), [-3]), (paper(1000, 1, D1), [-3]), (paper(-1, 1, D1), [-3]),
            (paper(LEAST, 1, D1), [-3]), (paper(MOST, 1, D1), [-3]),
            (paper(1, 0, D1), [-3]), (paper(1, 21, D1), [-3]), (paper(1, LEAST, D1), [-3]),
            (paper(1, MOST, D1), [-3]),
        ])

    def test_dates(self):
        self.check_each([], [(paper(1, 1, told), [1]) for told in GOOD_DATES])
        self.check_each([], [(paper(1, 1, told), [-2]) for told in BAD_DATES])

    def test_its_own_day(self):
        for told in GOOD_DATES:
            self.check_last([0, *told, 8], paper(8, 1, told), day(8))

    def test_boxes_of_one_feature(self):
        self.check_each([field(4)], [
            (paper(1, 1, D1, (1,)), [1]), (paper(1, 1, D1, (15,)), [1]), (paper(1, 1, D1, (1, 2, 3)), [1]),
            (paper(1, 1, D1, (3, 2, 1)), [1]), (paper(1, 1, D1, range(1, 13)), [1]),
            (paper(1, 1, D1, ()), [-4]), (paper(1, 1, D1, range(1, 14)), [-4]), (paper(1, 1, D1, (16,)), [-4]),
            (paper(1, 1, D1, (0,)), [-4]), (paper(1, 1, D1, (1, 1)), [-4]), (paper(1, 1, D1, (1, 2, 1)), [-4]),
            (paper(1, 1, D1, (1, 2, 16)), [-4]), (paper(1, 1, D1, (LEAST,)), [-4]), (paper(1, 1, D1, (MOST,)), [-4]),
        ])

    def test_boxes_of_two_features(self):
        self.check_each([field(4, 1)], [
            (paper(1, 1, D1, (1, 1)), [1]), (paper(1, 1, D1, (1, 1, 2, 1)), [1]),
            (paper(1, 1, D1, flat(ONE_BOX_MORE[:12])), [1]), (paper(1, 1, D1, flat(ONE_BOX_MORE)), [-4]),
            (paper(1, 1, D1, ()), [-4]), (paper(1, 1, D1, (1,)), [-4]), (paper(1, 1, D1, (1, 1, 2)), [-4]),
            (paper(1, 1, D1, (1, 1, 1, 1)), [-4]), (paper(1, 1, D1, (1, 2)), [-4]), (paper(1, 1, D1, (1, 0)), [-4]),
        ])

    def test_boxes_that_share_numbers_are_not_alike(self):
        self.check_each([field(2, 2)], [(paper(1, 1, D1, (1, 2, 2, 1, 1, 1, 2, 2)), [1])])

    def test_numbers_left_over(self):
        for features in range(2, 7):
            for count in range(1, 73):
                boxes = [[place % 200 + 1] + [1] * (features - 1) for place in range(count // features + 1)]
                expected = [1] if count % features == 0 and count // features <= 12 else [-4]
                with self.subTest(features=features, count=count):
                    self.check_last(expected, field(*[8] * features), paper(1, 1, D1, flat(boxes)[:count]))

    def test_the_longest_lists(self):
        boxes = [[place + 1, 2, 3, 4, 5, 255] for place in range(14)]
        known = [field(8, 8, 8, 8, 8, 8)]
        self.check_each(known, [
            (paper(1, 1, D1, flat(boxes)[:72]), [1]), (paper(1, 1, D1, flat(boxes)[:78]), [-4]),
            (paper(1, 1, D1, flat(boxes)[:80]), [-4]),
        ])
        for features in range(1, 7):
            self.check_each([field(*[8] * features)], [(paper(1, 1, D1, range(1, 81)), [-4])])
        self.check_last([0, *D1, 1], *known, paper(1, 1, D1, flat(boxes)[:72]), day(1, boxes[11]))

    def test_a_number_that_is_taken(self):
        known = [paper(1, 1, D1), part(2, 1, D1)]
        self.check_each(known, [(paper(1, 2, D2), [-6]), (paper(2, 2, D2), [-6]), (paper(3, 2, D2), [3])])

    def test_24_papers(self):
        known = [paper(n, 1, D1) for n in range(1, 25)]
        self.assertEqual(run(known)[-1], [24])
        self.check_each(known[:23], [(paper(24, 1, D1), [24]), (part(24, 1, D1), [24])])
        self.check_each(known, [(paper(25, 1, D1), [-9]), (part(25, 1, D1), [-9]), (paper(24, 1, D1), [-6])])
        self.check_each(known[:23] + [part(24, 1, D1)], [(paper(25, 1, D1), [-9]), (part(25, 24, D1), [-9])])

    def test_which_refusal_comes_first(self):
        full = [paper(n, 1, D1) for n in range(1, 25)]
        self.check_each(full, [
            (paper(0, 1, (1, 1, 1), ()), [-3]), (paper(1, 0, (1, 1, 1), ()), [-3]), (paper(1, 1, (1, 1, 1), ()), [-2]),
            (paper(1, 1, D1, ()), [-4]), (paper(1, 1, D1), [-6]), (paper(25, 1, D1, (9,)), [-4]),
            (paper(25, 1, D1), [-9]),
        ])

    def test_a_refusal_changes_nothing(self):
        known = [paper(1, 1, D1, (1, 2)), paper(2, 2, D2, (1,)), name(2, 1)]
        refused = [paper(1, 2, D2, (3,)), paper(0, 1, D1), paper(3, 0, D1), paper(3, 1, (2021, 2, 29)),
                   paper(3, 1, D1, (1, 1)), paper(2, 1, D2)]
        asked = [day(1, (2,)), day(1, (3,)), day(2), day(3), hand(1, 1, 1, 2, D1), day(2), paper(3, 1, D1)]
        self.check_unchanged(known, refused, asked)
        full = [paper(n, 1, D1) for n in range(2, 26)]
        self.check_unchanged(full, [paper(1, 1, D1), part(1, 2, D1)], [day(1), day(2), publish(1, D1)])


class PartTest(LineTest):
    KNOWN = [field(3), paper(1, 5, D2, (1, 2, 3)), paper(2, 6, D1, (4,))]

    def test_answers_how_many_there_are(self):
        calls = self.KNOWN + [part(7, 1, D2, (1, 2)), part(6, 7, D3, (2,))]
        self.assertEqual(run(calls)[-2:], [[3], [4]])

    def test_ranges(self):
        self.check_each(self.KNOWN, [
            (part(999, 1, D2), [3]), (part(3, 1, D2), [3]), (part(0, 1, D2), [-3]), (part(1000, 1, D2), [-3]),
            (part(LEAST, 1, D2), [-3]), (part(MOST, 1, D2), [-3]),
            (part(3, 0, D2), [-5]), (part(3, 1000, D2), [-5]), (part(3, LEAST, D2), [-5]), (part(3, MOST, D2), [-5]),
        ])
        self.check_last([2], paper(2, 1, D1), part(1, 2, D1))

    def test_dates(self):
        known = [paper(1, 1, (1900, 1, 1))]
        self.check_each(known, [(part(2, 1, told), [2]) for told in GOOD_DATES])
        self.check_each(known, [(part(2, 1, told), [-2]) for told in BAD_DATES])

    def test_boxes(self):
        self.check_each(self.KNOWN, [
            (part(3, 1, D2, (1, 2, 3)), [3]), (part(3, 1, D2, (3, 1)), [3]), (part(3, 1, D2, ()), [-4]),
            (part(3, 1, D2, (1, 1)), [-4]), (part(3, 1, D2, (8,)), [-4]), (part(3, 1, D2, (0,)), [-4]),
        ])
        many = [field(8, 8), paper(1, 1, D1, flat((n, n) for n in range(1, 13)))]
        self.check_each(many, [
            (part(2, 1, D1, flat((n, n) for n in range(1, 13))), [2]),
            (part(2, 1, D1, flat((n, n) for n in range(1, 14))), [-4]),
            (part(2, 1, D1, (1, 1, 2)), [-4]), (part(2, 1, D1, range(1, 81)), [-4]),
        ])

    def test_there_must_be_a_parent(self):
        self.check_each(self.KNOWN, [(part(3, 4, D2), [-5]), (part(3, 3, D2), [-5])])

    def test_a_number_that_is_taken(self):
        self.check_each(self.KNOWN, [(part(1, 1, D2), [-6]), (part(2, 1, D2), [-6])])
        self.check_each(self.KNOWN + [part(3, 1, D2)], [(part(3, 1, D2), [-6])])

    def test_the_date_is_not_before_the_parents(self):
        self.check_each(self.KNOWN, [(part(3, 1, (2020, 8, 31)), [-7]), (part(3, 1, D2), [3]), (part(3, 1, D3), [3])])
        nested = self.KNOWN + [part(3, 1, D3)]
        self.check_each(nested, [(part(4, 3, D2), [-7]), (part(4, 3, D3), [4])])

    def test_a_withdrawn_parent(self):
        for left in (0, 1):
            known = self.KNOWN + [withdraw(1, (2020, 10, 1), left)]
            self.check_each(known, [
                (part(3, 1, (2020, 9, 30)), [3]), (part(3, 1, (2020, 10, 1)), [3]), (part(3, 1, (2020, 10, 2)), [-7]),
            ])

    def test_a_withdrawn_grandparent_or_brother_does_not_matter(self):
        known = self.KNOWN + [part(3, 1, D2, (1,)), part(4, 1, D2, (1,)), withdraw(1, D2), withdraw(4, D2)]
        self.check_each(known, [(part(5, 3, (2021, 1, 1)), [5])])

    def test_a_box_that_the_parent_does_not_disclose(self):
        self.check_each(self.KNOWN, [
            (part(3, 1, D2, (4,)), [-7]), (part(3, 1, D2, (1, 4)), [-7]), (part(3, 1, D2, (5, 1)), [-7]),
        ])
        nested = self.KNOWN + [part(3, 1, D3, (1, 2))]
        self.check_each(nested, [(part(4, 3, D3, (3,)), [-7]), (part(4, 3, D3, (2,)), [4])])

    def test_it_discloses_just_its_own_boxes(self):
        known = self.KNOWN + [part(3, 1, D3, (2,))]
        self.check_each(known, [(day(3, (2,)), [0, *D2, 1]), (day(3, (1,)), [-7]), (day(1, (1,)), [0, *D2, 1])])

    def test_which_refusal_comes_first(self):
        full = [paper(n, 1, D2) for n in range(1, 25)]
        bad = (1, 1, 1)
        self.check_each(full, [
            (part(0, 99, bad, ()), [-3]), (part(1, 99, bad, ()), [-2]), (part(1, 99, D1, ()), [-4]),
            (part(1, 99, D1, (2,)), [-5]), (part(1, 2, D1, (2,)), [-6]), (part(25, 2, D1, (2,)), [-7]),
            (part(25, 2, D1), [-7]), (part(25, 2, D2, (2,)), [-7]), (part(25, 2, D2), [-9]),
        ])

    def test_a_refusal_changes_nothing(self):
        known = self.KNOWN + [part(3, 1, D3, (1, 2)), withdraw(1, D3), paper(4, 5, D3, (1,))]
        refused = [part(5, 1, (2020, 9, 3)), part(5, 1, D1), part(5, 1, D2, (4,)), part(5, 9, D2), part(3, 1, D2),
                   part(4, 1, D2), part(0, 1, D2), part(5, 1, D2, (1, 1)), part(5, 1, (2020, 9, 31))]
        asked = [day(5), day(3), day(3, (2,)), day(4), name(4, 1), day(4), part(5, 1, D2, (3,)), day(5, (3,)),
                 closed(2020, 1, 1)]
        self.check_unchanged(known, refused, asked)


if __name__ == "__main__":
    unittest.main()
