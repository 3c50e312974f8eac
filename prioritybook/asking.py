"""The calls from 10 on: each asks the book and changes nothing."""

from prioritybook.boxes import is_box
from prioritybook.priority import day_of
from prioritybook.refusals import BAD_LIST, DOES_NOT_FIT, NO_CALL, NO_PAPER


def tell_day(book, n, row):
    if not is_box(book.leaves, row):
        return [BAD_LIST]
    if n not in book.papers:
        return [NO_PAPER]
    paper = book.papers[n]
    box = tuple(row)
    if box not in paper.boxes:
        return [DOES_NOT_FIT]
    found = day_of(book, paper, box)
    return [0] + list(found[0]) + [found[1]]


def ask(book, call, numbers, row):
    """What the book answers to a call from 10 on."""
    if call == 10:
        return tell_day(book, numbers[0], row)
    return [NO_CALL]
