"""The day of a box in a paper, and all that it hangs on: limits, traces, firsts and the right to name."""

from prioritybook.book import Paper
from prioritybook.dates import day_after, weekday, year_later

# Whether a paper gives its date, or else the first thing that hinders it, in the order in which they're looked for.
GIVEN = 0
NOT_NAMED = 1
NOT_DISCLOSED = 2
TOO_LATE = 3
NOT_FIRST = 4
NO_RIGHT = 5


def first_open_day(book, start):
    date = start
    # The weekday is carried along, for there may be more than a thousand closed days in a row.
    # The walk ends: at most six weekdays are days of rest, and only so many days can be told as closed.
    day = weekday(date)
    while day in book.rest_days or date in book.closed_days:
        date = day_after(date)
        day = (day + 1) % 7
    return date


def limit_of(book, paper):
    if paper.date not in book.limits:
        book.limits[paper.date] = first_open_day(book, year_later(paper.date))
    return book.limits[paper.date]


def is_named_by_day(book, paper, day):
    return any([other.date <= day and paper.number in other.named for other in book.papers.values()])


def left_no_trace(book, paper, day):
    if paper.withdrawn is None or paper.withdrawn > day or paper.rights_left:
        return False
    if paper.published is not None and paper.published <= day:
        return False
    return not is_named_by_day(book, paper, day)


def no_older_left_a_trace(book, paper, box):
    for other in book.papers.values():
        is_older = other.date < paper.date and other.who == paper.who and box in other.boxes
        if is_older and not left_no_trace(book, other, paper.date):
            return False
    return True


def is_first(book, paper, box):
    """Whether the paper is first for the box, one that it discloses."""
    asked = (paper.number, box)
    if asked not in book.firsts:
        book.firsts[asked] = no_older_left_a_trace(book, paper, box)
    return book.firsts[asked]


def deeds_until(book, paper, day):
    """The deeds about the paper that have their turn on or before the day, in the order in which they work."""
    deeds = [deed for deed in book.deeds.values() if deed.paper == paper.number and deed.date <= day]
    return sorted(deeds, key=lambda deed: (deed.date, deed.number))


def holder_on(book, paper, box, day):
    """Who has the right to name the paper for the box on the day."""
    holder = paper.who
    for deed in deeds_until(book, paper, day):
        if box in deed.boxes and deed.giver == holder:
            holder = deed.taker
    return holder


def hindrance(book, paper, source, box):
    """The first thing that keeps the source from giving the paper its date for the box, or GIVEN."""
    if source.number not in paper.named:
        return NOT_NAMED
    if box not in source.boxes:
        return NOT_DISCLOSED
    if paper.date > limit_of(book, source):
        return TOO_LATE
    if not is_first(book, source, box):
        return NOT_FIRST
    if holder_on(book, source, box, paper.date) != paper.who:
        return NO_RIGHT
    return GIVEN


def root_of(book, paper):
    root = paper
    while root.parent != 0:
        root = book.papers[root.parent]
    return root


def day_of(book, paper, box):
    """The day of the box in the paper, and the number of the paper that it comes from."""
    root = root_of(book, paper)
    day = root.date
    source = root.number
    # By rising numbers, and only a date that is earlier counts: so the paper itself, then the least number, is kept.
    for number in sorted(root.named):
        named = book.papers[number]
        if named.date < day and hindrance(book, root, named, box) == GIVEN:
            day = named.date
            source = number
    return (day, source)


# The papers below are only thought of: they aren't in the book, so the traces of others don't hang on what they name.
# That changes no day. A name leaves a trace only by days from the naming paper's date on, and a paper of such a date
# gives the naming paper no earlier day, first or not.


def without_name(paper, number):
    """The paper as it would be if it didn't name the one of that number."""
    thought = Paper(paper.number, paper.who, paper.date, paper.boxes, paper.parent)
    thought.named = dict(paper.named)
    thought.named.pop(number, None)
    return thought


def naming_all_before(book, who, date, box):
    """A paper, of the number 0, that names all papers whose dates are before its own."""
    thought = Paper(0, who, date, [box], 0)
    for other in book.papers.values():
        if other.date < date:
            thought.named[other.number] = True
    return thought
