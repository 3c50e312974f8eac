"""Which papers hang together, and which have the same sources."""

from prioritybook.priority import day_of


def are_joined(one, other):
    """Whether one of the two names the other or is its parent."""
    if other.number in one.named or one.number in other.named:
        return True
    return one.parent == other.number or other.parent == one.number


def family_of(book, paper):
    """The numbers of the paper and of all that hang together with it, rising."""
    found = {paper.number: True}
    waiting = [paper]
    while len(waiting) > 0:
        one = waiting.pop()
        for other in book.papers.values():
            if other.number not in found and are_joined(one, other):
                found[other.number] = True
                waiting.append(other)
    return sorted(found)


def sources_of(book, paper):
    """The numbers of the papers from which the days of the paper's boxes come, rising, each once."""
    return sorted(set([day_of(book, paper, box)[1] for box in paper.boxes]))


def alike_with(book, paper):
    """The numbers of the papers whose sources are just the paper's, rising."""
    sources = sources_of(book, paper)
    return sorted([other.number for other in book.papers.values() if sources_of(book, other) == sources])
