"""What the tests share: each call as the numbers that are handed in, and a line's answers cut apart."""

import unittest

from prioritybook.papers import answers

LEAST = -9223372036854775808
MOST = 9223372036854775807

OK = [0]

GOOD_DATES = (
    (1900, 1, 1), (1900, 2, 28), (1904, 2, 29), (2000, 2, 29), (2023, 2, 28), (2024, 2, 29), (2100, 2, 28),
    (2199, 12, 31), (2021, 1, 31), (2021, 3, 31), (2021, 4, 30), (2021, 5, 31), (2021, 6, 30), (2021, 7, 31),
    (2021, 8, 31), (2021, 9, 30), (2021, 10, 31), (2021, 11, 30), (2021, 12, 31),
)
BAD_DATES = (
    (1899, 12, 31), (2200, 1, 1), (0, 1, 1), (-2000, 1, 1), (LEAST, 1, 1), (MOST, 1, 1),
    (2021, 0, 1), (2021, 13, 1), (2021, -1, 1), (2021, LEAST, 1), (2021, MOST, 1),
    (2021, 1, 0), (2021, 1, -1), (2021, 1, 32), (2021, 1, LEAST), (2021, 1, MOST),
    (1900, 2, 29), (2023, 2, 29), (2024, 2, 30), (2000, 2, 30), (2100, 2, 29),
    (2021, 3, 32), (2021, 4, 31), (2021, 5, 32), (2021, 6, 31), (2021, 7, 32), (2021, 8, 32), (2021, 9, 31),
    (2021, 10, 32), (2021, 11, 31), (2021, 12, 32), (0, 0, 0), (LEAST, LEAST, LEAST), (MOST, MOST, MOST),
)


def listed(numbers):
    return [len(numbers)] + list(numbers)


def field(*leaves):
    return [0] + listed(leaves)


def rest(*weekdays):
    return [1] + listed(weekdays)


def closed(*date):
    return [2] + list(date)


def paper(n, who, date, boxes=(1,)):
    return [3, n, who] + list(date) + listed(boxes)


def part(n, q, date, boxes=(1,)):
    return [4, n, q] + list(date) + listed(boxes)


def name(n, q):
    return [5, n, q]


def give(n, q):
    return [6, n, q]


def withdraw(n, date, left=0):
    return [7, n] + list(date) + [left]


def publish(n, date):
    return [8, n] + list(date)


def hand(k, q, giver, taker, date, boxes=()):
    return [9, k, q, giver, taker] + list(date) + listed(boxes)


def day(n, box=(1,)):
    return [10, n] + listed(box)


def run(calls):
    """The answer to each of the calls, as a list of lists."""
    line = []
    for call in calls:
        line.extend(call)
    return cut_apart(answers(line))


def cut_apart(given):
    found = []
    place = 0
    while place < len(given):
        end = place + 1 + given[place]
        if given[place] < 1 or end > len(given):
            raise AssertionError(f"no row of answers: {given}")
        found.append(given[place + 1:end])
        place = end
    return found


def last(*calls):
    """The answer to the last of the calls; the ones ahead of it must all be done."""
    found = run(calls)
    for call, answer in zip(calls[:-1], found[:-1]):
        if answer[0] < 0:
            raise AssertionError(f"{call} is refused: {answer}")
    return found[-1]


class LineTest(unittest.TestCase):
    def check_last(self, expected, *calls):
        self.assertEqual(last(*calls), expected)

    def check_each(self, known, cases):
        """Each case is a call and its answer, made on a line of its own behind what's known."""
        for call, expected in cases:
            with self.subTest(call=call):
                self.assertEqual(last(*known, call), expected)

    def check_unchanged(self, known, refused, asked):
        """Each refused call, put between what's known and what's asked, leaves the answers as they were."""
        expected = run(known + asked)[len(known):]
        for call in refused:
            with self.subTest(call=call):
                found = run(known + [call] + asked)[len(known):]
                self.assertEqual(len(found[0]), 1)
                self.assertLess(found[0][0], 0)
                self.assertEqual(found[1:], expected)
