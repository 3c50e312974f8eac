"""The call 21, told: what is known of a paper."""

import unittest

from tests.lines import (
    D0, D1, D2, D3, LineTest, field, give, hand, name, paper, part, publish, told, withdraw,
)


class ToldTest(LineTest):
    def test_nothing_but_itself(self):
        self.check_last([5, *D0, 0, 1, 1, 0, 0, 0], paper(7, 5, D0), told(7))

    def test_boxes_in_their_order(self):
        self.check_last([5, *D0, 0, 3, 3, 1, 2, 0, 0, 0], paper(7, 5, D0, (3, 1, 2)), told(7))
        known = [field(2, 8, 1), paper(7, 5, D0, (3, 255, 1, 1, 7, 1))]
        self.check_last([5, *D0, 0, 2, 3, 255, 1, 1, 7, 1, 0, 0, 0], *known, told(7))

    def test_twelve_boxes(self):
        boxes = (12, 3, 9, 1, 7, 5, 2, 11, 4, 10, 8, 6)
        self.check_last([1, *D0, 0, 12, *boxes, 0, 0, 0], field(4), paper(7, 1, D0, boxes), told(7))

    def test_a_parted_paper(self):
        known = [paper(7, 5, D0, (1, 2)), part(3, 7, D1, (2,)), part(4, 3, D2, (2,))]
        self.check_each(known, [
            (told(3), [5, *D1, 7, 1, 2, 0, 0, 0]), (told(4), [5, *D2, 3, 1, 2, 0, 0, 0]),
            (told(7), [5, *D0, 0, 2, 1, 2, 0, 0, 0]),
        ])

    def test_names_by_rising_numbers(self):
        known = [paper(n, 1, D0) for n in (30, 7, 199, 20)] + [paper(1, 2, D1)]
        known += [name(1, n) for n in (20, 199, 7, 30)]
        self.check_each(known, [
            (told(1), [2, *D1, 0, 1, 1, 4, 7, 20, 30, 199, 0, 0]), (told(7), [1, *D0, 0, 1, 1, 0, 0, 0]),
        ])
        self.check_last([2, *D1, 0, 1, 1, 3, 7, 20, 199, 0, 0], *known, give(1, 30), told(1))

    def test_eight_names(self):
        known = [paper(n, 1, D0) for n in range(1, 10)] + [name(9, n) for n in range(8, 0, -1)]
        self.check_last([1, *D0, 0, 1, 1, 8, 1, 2, 3, 4, 5, 6, 7, 8, 0, 0], *known, told(9))

    def test_withdrawn(self):
        self.check_last([5, *D0, 0, 1, 1, 0, 1, *D2, 1, 0], paper(7, 5, D0), withdraw(7, D2, 1), told(7))
        self.check_last([5, *D0, 0, 1, 1, 0, 1, *D2, 0, 0], paper(7, 5, D0), withdraw(7, D2, 0), told(7))

    def test_published(self):
        self.check_last([5, *D0, 0, 1, 1, 0, 0, 1, *D2], paper(7, 5, D0), publish(7, D2), told(7))

    def test_everything(self):
        known = [paper(9, 5, D0, (1, 2)), paper(4, 2, D0), paper(7, 5, D1, (2, 3)), name(7, 9), name(7, 4)]
        known += [publish(7, D3), withdraw(7, D2, 1), hand(1, 7, 5, 6, D2)]
        self.check_last([5, *D1, 0, 2, 2, 3, 2, 4, 9, 1, *D2, 1, 1, *D3], *known, told(7))

    def test_everything_of_a_parted_paper(self):
        known = [paper(9, 5, D0, (1, 2)), part(7, 9, D1, (2,)), withdraw(7, D3, 0), publish(7, D2)]
        self.check_last([5, *D1, 9, 1, 2, 0, 1, *D3, 0, 1, *D2], *known, told(7))

    def test_refusals(self):
        self.check_missing([paper(1, 1, D0)], told)

    def test_asking_changes_nothing(self):
        self.check_asks_only(told(4), told(5), told(1), told(2), told(777))


if __name__ == "__main__":
    unittest.main()
