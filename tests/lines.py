"""What the tests share: each call as the numbers that are handed in, and a line's answers cut apart."""

import unittest

from prioritybook.papers import answers

LEAST = -9223372036854775808
MOST = 9223372036854775807

OK = [0]

GOOD_DATES = (
    (1900, 1, 1), (1900, 2, 28), (1904, 2, 29), (2000, 2, 29), (2023, 2, 28), (2024, 2, 29), (2100, 2, 28),
    (2199, 12, 31), (2021, 1, 31), (2021, 3, 31), (2021, 4, 30), (2021, 5, 31), (2021, 6, 30), (2021, 7, 31),
    (2021, 8, 31), (2021, 9, 30), (2021, 10, 31), (2021, 11, 30), (2021, 12, 31),
)
BAD_DATES = (
    (1899, 12, 31), (2200, 1, 1), (0, 1, 1), (-2000, 1, 1), (LEAST, 1, 1), (MOST, 1, 1),
    (2021, 0, 1), (2021, 13, 1), (2021, -1, 1), (2021, LEAST, 1), (2021, MOST, 1),
    (2021, 1, 0), (2021, 1, -1), (2021, 1, 32), (2021, 1, LEAST), (2021, 1, MOST),
    (1900, 2, 29), (2023, 2, 29), (2024, 2, 30), (2000, 2, 30), (2100, 2, 29),
    (2021, 3, 32), (2021, 4, 31), (2021, 5, 32), (2021, 6, 31), (2021, 7, 32), (2021, 8, 32), (2021, 9, 31),
    (2021, 10, 32), (2021, 11, 31), (2021, 12, 32), (0, 0, 0), (LEAST, LEAST, LEAST), (MOST, MOST, MOST),
)


def listed(numbers):
    return [len(numbers)] + list(numbers)


def field(*leaves):
    return [0] + listed(leaves)


def rest(*weekdays):
    return [1] + listed(weekdays)


def closed(*date):
    return [2] + list(date)


def paper(n, who, date, boxes=(1,)):
    return [3, n, who] + list(date) + listed(boxes)


def part(n, q, date, boxes=(1,)):
    return [4, n, q] + list(date) + listed(boxes)


def name(n, q):
    return [5, n, q]


def give(n, q):
    return [6, n, q]


def withdraw(n, date, left=0):
    return [7, n] + list(date) + [left]


def publish(n, date):
    return [8, n] + list(date)


def hand(k, q, giver, taker, date, boxes=()):
    return [9, k, q, giver, taker] + list(date) + listed(boxes)


def day(n, box=(1,)):
    return [10, n] + listed(box)


def days(n):
    return [11, n]


def why(n, q, box=(1,)):
    return [12, n, q] + listed(box)


def limit(q):
    return [13, q]


def first(who, box=(1,)):
    return [14, who] + listed(box)


def holder(q, date, box=(1,)):
    return [15, q] + list(date) + listed(box)


def family(n):
    return [16, n]


def alike(n):
    return [17, n]


def lost(n, q):
    return [18, n, q]


def could(who, date, box=(1,)):
    return [19, who] + list(date) + listed(box)


def claim(n, boxes=(1,)):
    return [20, n] + listed(boxes)


def told(n):
    return [21, n]


def run(calls):
    """The answer to each of the calls, as a list of lists."""
    line = []
    for call in calls:
        line.extend(call)
    return cut_apart(answers(line))


def cut_apart(given):
    found = []
    place = 0
    while place < len(given):
        end = place + 1 + given[place]
        if given[place] < 1 or end > len(given):
            raise AssertionError(f"no row of answers: {given}")
        found.append(given[place + 1:end])
        place = end
    return found


def last(*calls):
    """The answer to the last of the calls; the ones ahead of it must all be done."""
    found = run(calls)
    for call, answer in zip(calls[:-1], found[:-1]):
        if answer[0] < 0:
            raise AssertionError(f"{call} is refused: {answer}")
    return found[-1]


def all_questions(numbers, boxes, dates, everybody):
    """Each of the calls 10 to 21, asked of all these papers, boxes, dates and people."""
    asked = []
    for n in numbers:
        asked += [days(n), limit(n), family(n), alike(n), told(n), claim(n, boxes[0] + boxes[-1])]
        asked += [lost(n, q) for q in numbers]
        asked += [call for box in boxes for call in (day(n, box), claim(n, box))]
        asked += [why(n, q, box) for q in numbers for box in boxes]
        asked += [holder(n, date, box) for date in dates for box in boxes]
    for who in everybody:
        asked += [first(who, box) for box in boxes]
        asked += [could(who, date, box) for date in dates for box in boxes]
    return asked


D0 = (2020, 1, 7)
D1 = (2020, 3, 2)
D2 = (2020, 9, 1)
D3 = (2021, 3, 3)

# A book in which each of the calls 10 to 21 has something to tell. Paper 4 names 1, which it's too late for, and 2,
# which is first for the box 1, as 3 left no trace; 5 is parted from 4.
RICH = [
    field(3), rest(5, 6), closed(2021, 3, 2), paper(1, 1, D0, (1, 2)), paper(2, 2, D1, (1, 4)), paper(3, 2, D0, (1,)),
    withdraw(3, D1), paper(4, 1, D3, (4, 2, 1)), part(5, 4, D3, (1, 2)), name(4, 1), name(4, 2), publish(1, D2),
    withdraw(2, D2, 1), hand(7, 2, 2, 1, D2, (1,)), paper(6, 1, D2, (2,)), name(6, 1), hand(3, 1, 2, 6, D2),
]
LATER = all_questions((1, 2, 3, 4, 5, 6), [(1,), (2,), (4,)], (D0, D2, D3), (1, 2, 3))
LATER += [paper(8, 3, D1), hand(8, 8, 3, 1, D1), name(4, 8), closed(2021, 3, 3), days(4), alike(4), told(4), limit(2)]


class LineTest(unittest.TestCase):
    def check_last(self, expected, *calls):
        self.assertEqual(last(*calls), expected)

    def check_each(self, known, cases):
        """Each case is a call and its answer, made on a line of its own behind what's known."""
        for call, expected in cases:
            with self.subTest(call=call):
                self.assertEqual(last(*known, call), expected)

    def check_unchanged(self, known, refused, asked):
        """Each refused call, put between what's known and what's asked, leaves the answers as they were."""
        expected = run(known + asked)[len(known):]
        for call in refused:
            with self.subTest(call=call):
                found = run(known + [call] + asked)[len(known):]
                self.assertEqual(len(found[0]), 1)
                self.assertLess(found[0][0], 0)
                self.assertEqual(found[1:], expected)

    def check_asks_only(self, *asked):
        """Each asked call, done or refused, leaves the later answers of a book as if it hadn't been asked."""
        expected = run(RICH + LATER)[len(RICH):]
        for call in asked:
            with self.subTest(call=call):
                self.assertEqual(run(RICH + [call, call] + LATER)[len(RICH) + 2:], expected)

    def check_box_forms(self, make):
        """The call that make makes of a box, on fields of one feature and of two, answers -4 where it's no box."""
        for box in ((), (0,), (8,), (-1,), (1, 2), (1, 1), (LEAST,), (MOST,), range(1, 81)):
            self.check_each([field(3), paper(1, 1, (2020, 3, 2))], [(make(box), [-4])])
        for box in ((), (1,), (1, 2, 3), (1, 1, 1, 1), (4, 1), (1, 8), (0, 1), (1, 0), (-1, 1), (1, MOST)):
            self.check_each([field(2, 3), paper(1, 1, (2020, 3, 2), (1, 1))], [(make(box), [-4])])

    def check_missing(self, known, make):
        """The call that make makes of a paper's number answers -5 where there's none of that number."""
        self.check_each(known, [(make(missing), [-5]) for missing in (0, -1, 777, 999, 1000, LEAST, MOST)])

    def check_people(self, known, make):
        """The call that make makes of somebody's number answers -3 where it isn't from 1 to 20."""
        self.check_each(known, [(make(who), [-3]) for who in (0, 21, -1, LEAST, MOST)])
        for who in (1, 20):
            self.assertGreaterEqual(last(*known, make(who))[0], 0)

    def check_dates(self, known, make):
        """The call that make makes of a date answers -2 where it isn't one."""
        self.check_each(known, [(make(date), [-2]) for date in BAD_DATES])
        for date in GOOD_DATES:
            self.assertGreaterEqual(last(*known, make(date))[0], 0)
