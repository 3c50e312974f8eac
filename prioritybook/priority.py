"""The day of a box in a paper, and all that it hangs on: limits, traces, firsts and the right to name."""

from prioritybook.dates import day_after, weekday, year_later


def limit_of(book, paper):
    date = year_later(paper.date)
    # The weekday is carried along, for there may be more than a thousand closed days in a row.
    # The walk ends: at most six weekdays are days of rest, and only so many days can be told as closed.
    day = weekday(date)
    while day in book.rest_days or date in book.closed_days:
        date = day_after(date)
        day = (day + 1) % 7
    return date


def is_named_by_day(book, paper, day):
    return any([other.date <= day and paper.number in other.named for other in book.papers.values()])


def left_no_trace(book, paper, day):
    if paper.withdrawn is None or paper.withdrawn > day or paper.rights_left:
        return False
    if paper.published is not None and paper.published <= day:
        return False
    return not is_named_by_day(book, paper, day)


def is_first(book, paper, box):
    for other in book.papers.values():
        is_older = other.date < paper.date and other.who == paper.who and box in other.boxes
        if is_older and not left_no_trace(book, other, paper.date):
            return False
    return True


def holder_on(book, paper, box, day):
    """Who has the right to name the paper for the box on the day."""
    holder = paper.who
    for deed in sorted(book.deeds.values(), key=lambda each: (each.date, each.number)):
        works = deed.paper == paper.number and deed.date <= day and box in deed.boxes
        if works and deed.giver == holder:
            holder = deed.taker
    return holder


def gives(book, source, paper, box):
    """Whether the source, one that the paper names, gives the paper its date for the box."""
    if box not in source.boxes:
        return False
    if paper.date > limit_of(book, source):
        return False
    if not is_first(book, source, box):
        return False
    return holder_on(book, source, box, paper.date) == paper.who


def root_of(book, paper):
    root = paper
    while root.parent != 0:
        root = book.papers[root.parent]
    return root


def day_of(book, paper, box):
    """The day of the box in the paper, and the number of the paper that it comes from."""
    root = root_of(book, paper)
    day = root.date
    source = root.number
    # By rising numbers, and only a date that is earlier counts: so the paper itself, then the least number, is kept.
    for number in sorted(root.named):
        named = book.papers[number]
        if named.date < day and gives(book, named, root, box):
            day = named.date
            source = number
    return (day, source)
