"""What a line keeps from call to call: its field, its closed days, its papers and its deeds."""


class Paper:
    def __init__(self, number, who, date, boxes, parent):
        self.number = number
        self.who = who
        self.date = date
        self.boxes = boxes
        # The parent's number, 0 where the paper isn't parted.
        self.parent = parent
        self.named = {}
        self.withdrawn = None
        self.rights_left = False
        self.published = None


class Deed:
    def __init__(self, number, paper, boxes, giver, taker, date):
        self.number = number
        self.paper = paper
        self.boxes = boxes
        self.giver = giver
        self.taker = taker
        self.date = date


class Book:
    def __init__(self):
        self.begin([2])

    def begin(self, leaves):
        """All is empty but the field, which has so many leaves for each feature."""
        self.leaves = list(leaves)
        self.rest_days = []
        self.closed_days = {}
        self.papers = {}
        self.deeds = {}
        self.forget()

    def forget(self):
        """What was found before is to be found anew, for something became known."""
        # Kept because one question may ask the same for each box of each paper, and a limit may be a long walk.
        # Limits are found by the papers' dates, firsts by the papers' numbers and the boxes.
        self.limits = {}
        self.firsts = {}


def discloses_all(paper, boxes):
    return all([box in paper.boxes for box in boxes])
