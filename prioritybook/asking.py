"""The calls from 10 on: each asks the book and changes nothing."""

from prioritybook.book import discloses_all
from prioritybook.boxes import are_boxes, boxes_in, is_box
from prioritybook.dates import is_date
from prioritybook.families import alike_with, family_of
from prioritybook.priority import day_of, hindrance, holder_on, is_first, limit_of, naming_all_before, root_of
from prioritybook.priority import without_name
from prioritybook.ranges import is_somebody
from prioritybook.refusals import BAD_LIST, DOES_NOT_FIT, NO_DATE, NO_PAPER, OUT_OF_RANGE


def day_and_source(book, paper, box):
    found = day_of(book, paper, box)
    return list(found[0]) + [found[1]]


def tell_day(book, n, row):
    if not is_box(book.leaves, row):
        return [BAD_LIST]
    if n not in book.papers:
        return [NO_PAPER]
    paper = book.papers[n]
    box = tuple(row)
    if box not in paper.boxes:
        return [DOES_NOT_FIT]
    return [0] + day_and_source(book, paper, box)


def tell_days(book, n):
    if n not in book.papers:
        return [NO_PAPER]
    paper = book.papers[n]
    told = [len(paper.boxes)]
    for box in paper.boxes:
        told.extend(day_and_source(book, paper, box))
    return told


def tell_why(book, n, q, row):
    if not is_box(book.leaves, row):
        return [BAD_LIST]
    if n not in book.papers or q not in book.papers:
        return [NO_PAPER]
    return [hindrance(book, book.papers[n], book.papers[q], tuple(row))]


def tell_limit(book, q):
    if q not in book.papers:
        return [NO_PAPER]
    return [0] + list(limit_of(book, book.papers[q]))


def tell_first(book, who, row):
    if not is_somebody(who):
        return [OUT_OF_RANGE]
    if not is_box(book.leaves, row):
        return [BAD_LIST]
    box = tuple(row)
    disclosing = [paper for paper in book.papers.values() if paper.who == who and box in paper.boxes]
    return [0] + sorted([paper.number for paper in disclosing if is_first(book, paper, box)])


def tell_holder(book, q, date, row):
    if not is_date(date):
        return [NO_DATE]
    if not is_box(book.leaves, row):
        return [BAD_LIST]
    if q not in book.papers:
        return [NO_PAPER]
    paper = book.papers[q]
    box = tuple(row)
    if box not in paper.boxes:
        return [DOES_NOT_FIT]
    return [holder_on(book, paper, box, date)]


def tell_family(book, n):
    if n not in book.papers:
        return [NO_PAPER]
    return [0] + family_of(book, book.papers[n])


def tell_alike(book, n):
    if n not in book.papers:
        return [NO_PAPER]
    return [0] + alike_with(book, book.papers[n])


def tell_lost(book, n, q):
    if n not in book.papers or q not in book.papers:
        return [NO_PAPER]
    paper = book.papers[n]
    root = root_of(book, paper)
    thought = without_name(root, q)
    told = [0]
    for place, box in enumerate(paper.boxes):
        other_day = day_of(book, thought, box)[0]
        if other_day != day_of(book, root, box)[0]:
            told.append(place)
            told.extend(list(other_day))
    return told


def tell_could(book, who, date, row):
    if not is_somebody(who):
        return [OUT_OF_RANGE]
    if not is_date(date):
        return [NO_DATE]
    if not is_box(book.leaves, row):
        return [BAD_LIST]
    box = tuple(row)
    return [0] + day_and_source(book, naming_all_before(book, who, date, box), box)


def tell_claim(book, n, row):
    if not are_boxes(book.leaves, row, 1):
        return [BAD_LIST]
    if n not in book.papers:
        return [NO_PAPER]
    paper = book.papers[n]
    boxes = boxes_in(book.leaves, row)
    if not discloses_all(paper, boxes):
        return [DOES_NOT_FIT]
    days = [day_of(book, paper, box)[0] for box in boxes]
    different = sorted(set(days))
    told = [len(different)]
    for day in different:
        told.extend(list(day) + [days.count(day)])
    return told


def listed_boxes(paper):
    told = [len(paper.boxes)]
    for box in paper.boxes:
        told.extend(list(box))
    return told


def withdrawal(paper):
    if paper.withdrawn is None:
        return [0]
    return [1] + list(paper.withdrawn) + [1 if paper.rights_left else 0]


def publication(paper):
    if paper.published is None:
        return [0]
    return [1] + list(paper.published)


def tell_told(book, n):
    if n not in book.papers:
        return [NO_PAPER]
    paper = book.papers[n]
    told = [paper.who] + list(paper.date) + [paper.parent]
    told.extend(listed_boxes(paper))
    told.extend([len(paper.named)] + sorted(paper.named))
    return told + withdrawal(paper) + publication(paper)


def ask(book, call, numbers, row):
    """What the book answers to a call from 10 to 21."""
    if call == 10:
        return tell_day(book, numbers[0], row)
    if call == 11:
        return tell_days(book, numbers[0])
    if call == 12:
        return tell_why(book, numbers[0], numbers[1], row)
    if call == 13:
        return tell_limit(book, numbers[0])
    if call == 14:
        return tell_first(book, numbers[0], row)
    if call == 15:
        return tell_holder(book, numbers[0], tuple(numbers[1:]), row)
    if call == 16:
        return tell_family(book, numbers[0])
    if call == 17:
        return tell_alike(book, numbers[0])
    if call == 18:
        return tell_lost(book, numbers[0], numbers[1])
    if call == 19:
        return tell_could(book, numbers[0], tuple(numbers[1:]), row)
    if call == 20:
        return tell_claim(book, numbers[0], row)
    return tell_told(book, numbers[0])
