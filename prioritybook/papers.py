"""The whole of a line: its calls, read one behind another, and their answers."""

from prioritybook.asking import ask
from prioritybook.book import Book
from prioritybook.keeping import keep

# For each call, by its number: how many whole numbers it has, and how many lists (one at the most).
FORMS = (
    (0, 1),  # field
    (0, 1),  # rest
    (3, 0),  # closed
    (5, 1),  # paper
    (5, 1),  # part
    (2, 0),  # name
    (2, 0),  # give
    (5, 0),  # withdraw
    (4, 0),  # publish
    (7, 1),  # hand
    (1, 1),  # day
    (1, 0),  # days
    (2, 1),  # why
    (1, 0),  # limit
    (1, 1),  # first
    (4, 1),  # holder
    (1, 0),  # family
    (1, 0),  # alike
    (2, 0),  # lost
    (4, 1),  # could
    (1, 1),  # claim
    (1, 0),  # told
)
FIRST_ASKING = 10


def calls_in(line):
    """The calls of a line, each a tuple: its number, its whole numbers, its list (empty where it has none)."""
    found = []
    place = 0
    while place < len(line):
        call = line[place]
        form = FORMS[call]
        end = place + 1 + form[0]
        numbers = line[place + 1:end]
        row = []
        if form[1] == 1:
            start = end + 1
            end = start + line[end]
            row = line[start:end]
        found.append((call, numbers, row))
        place = end
    return found


def answer(book, call, numbers, row):
    if call < FIRST_ASKING:
        book.forget()
        return keep(book, call, numbers, row)
    return ask(book, call, numbers, row)


def answers(calls):
    book = Book()
    given = []
    for call in calls_in(calls):
        numbers = answer(book, call[0], call[1], call[2])
        given.append(len(numbers))
        given.extend(numbers)
    return given
