"""The calls 0 to 9: each keeps in the book what became known, or refuses."""

from prioritybook.book import Deed, Paper, discloses_all
from prioritybook.boxes import are_boxes, are_leaves, are_weekdays, boxes_in
from prioritybook.dates import is_date
from prioritybook.ranges import is_number, is_somebody
from prioritybook.refusals import BAD_LIST, DOES_NOT_FIT, FULL, NOTHING_TO_CHANGE, NO_DATE, NO_PAPER
from prioritybook.refusals import NUMBER_TAKEN, OUT_OF_RANGE

MOST_CLOSED_DAYS = 200
MOST_PAPERS = 24
MOST_NAMES = 8
MOST_DEEDS = 40


def set_field(book, row):
    if not are_leaves(row):
        return [BAD_LIST]
    book.begin(row)
    return [0]


def set_rest(book, row):
    if not are_weekdays(row):
        return [BAD_LIST]
    book.rest_days = list(row)
    return [0]


def close_day(book, date):
    if not is_date(date):
        return [NO_DATE]
    if date not in book.closed_days and len(book.closed_days) >= MOST_CLOSED_DAYS:
        return [FULL]
    book.closed_days[date] = True
    return [0]


def file_paper(book, n, who, date, row):
    if not is_number(n) or not is_somebody(who):
        return [OUT_OF_RANGE]
    if not is_date(date):
        return [NO_DATE]
    if not are_boxes(book.leaves, row, 1):
        return [BAD_LIST]
    if n in book.papers:
        return [NUMBER_TAKEN]
    if len(book.papers) >= MOST_PAPERS:
        return [FULL]
    book.papers[n] = Paper(n, who, date, boxes_in(book.leaves, row), 0)
    return [len(book.papers)]


def may_be_parted(parent, date, boxes):
    if date < parent.date:
        return False
    if parent.withdrawn is not None and parent.withdrawn < date:
        return False
    return discloses_all(parent, boxes)


def part_paper(book, n, q, date, row):
    if not is_number(n):
        return [OUT_OF_RANGE]
    if not is_date(date):
        return [NO_DATE]
    if not are_boxes(book.leaves, row, 1):
        return [BAD_LIST]
    if q not in book.papers:
        return [NO_PAPER]
    if n in book.papers:
        return [NUMBER_TAKEN]
    parent = book.papers[q]
    boxes = boxes_in(book.leaves, row)
    if not may_be_parted(parent, date, boxes):
        return [DOES_NOT_FIT]
    if len(book.papers) >= MOST_PAPERS:
        return [FULL]
    book.papers[n] = Paper(n, parent.who, date, boxes, q)
    return [len(book.papers)]


def name_paper(book, n, q):
    if n not in book.papers or q not in book.papers:
        return [NO_PAPER]
    paper = book.papers[n]
    if paper.parent != 0 or n == q or book.papers[q].date > paper.date:
        return [DOES_NOT_FIT]
    if q in paper.named:
        return [NOTHING_TO_CHANGE]
    if len(paper.named) >= MOST_NAMES:
        return [FULL]
    paper.named[q] = True
    return [0]


def give_up_name(book, n, q):
    if n not in book.papers or q not in book.papers:
        return [NO_PAPER]
    paper = book.papers[n]
    if q not in paper.named:
        return [NOTHING_TO_CHANGE]
    paper.named.pop(q)
    return [0]


def may_be_withdrawn(book, paper, date):
    if date < paper.date:
        return False
    return not any([other.parent == paper.number and date < other.date for other in book.papers.values()])


def withdraw_paper(book, n, date, left):
    if not 0 <= left <= 1:
        return [OUT_OF_RANGE]
    if not is_date(date):
        return [NO_DATE]
    if n not in book.papers:
        return [NO_PAPER]
    paper = book.papers[n]
    if not may_be_withdrawn(book, paper, date):
        return [DOES_NOT_FIT]
    if paper.withdrawn is not None:
        return [NOTHING_TO_CHANGE]
    paper.withdrawn = date
    paper.rights_left = left == 1
    return [0]


def publish_paper(book, n, date):
    if not is_date(date):
        return [NO_DATE]
    if n not in book.papers:
        return [NO_PAPER]
    paper = book.papers[n]
    if date < paper.date:
        return [DOES_NOT_FIT]
    if paper.published is not None:
        return [NOTHING_TO_CHANGE]
    paper.published = date
    return [0]


def hand_right(book, k, q, giver, taker, date, row):
    if not is_number(k) or not is_somebody(giver) or not is_somebody(taker):
        return [OUT_OF_RANGE]
    if not is_date(date):
        return [NO_DATE]
    if not are_boxes(book.leaves, row, 0):
        return [BAD_LIST]
    if q not in book.papers:
        return [NO_PAPER]
    if k in book.deeds:
        return [NUMBER_TAKEN]
    paper = book.papers[q]
    boxes = boxes_in(book.leaves, row)
    if not discloses_all(paper, boxes):
        return [DOES_NOT_FIT]
    if len(book.deeds) >= MOST_DEEDS:
        return [FULL]
    # A paper's boxes never change, so a deed without boxes may take them once and for all.
    if len(boxes) == 0:
        boxes = list(paper.boxes)
    book.deeds[k] = Deed(k, q, boxes, giver, taker, date)
    return [0]


def keep(book, call, numbers, row):
    """What the book answers to a call from 0 to 9."""
    if call == 0:
        return set_field(book, row)
    if call == 1:
        return set_rest(book, row)
    if call == 2:
        return close_day(book, tuple(numbers))
    if call == 3:
        return file_paper(book, numbers[0], numbers[1], tuple(numbers[2:]), row)
    if call == 4:
        return part_paper(book, numbers[0], numbers[1], tuple(numbers[2:]), row)
    if call == 5:
        return name_paper(book, numbers[0], numbers[1])
    if call == 6:
        return give_up_name(book, numbers[0], numbers[1])
    if call == 7:
        return withdraw_paper(book, numbers[0], tuple(numbers[1:4]), numbers[4])
    if call == 8:
        return publish_paper(book, numbers[0], tuple(numbers[1:]))
    return hand_right(book, numbers[0], numbers[1], numbers[2], numbers[3], tuple(numbers[4:]), row)
