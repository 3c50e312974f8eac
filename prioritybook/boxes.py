"""The forms of the lists that calls are handed: leaves, weekdays and boxes."""

MOST_BOXES = 12


def are_leaves(row):
    return 1 <= len(row) <= 6 and all([1 <= leaves <= 8 for leaves in row])


def are_weekdays(row):
    return len(row) <= 6 and all([0 <= day <= 6 for day in row])


def boxes_in(leaves, row):
    """The boxes of a row that has the form of boxes, each a tuple of a number for each feature."""
    width = len(leaves)
    return [tuple(row[place:place + width]) for place in range(0, len(row), width)]


def is_in_field(leaves, box):
    return all([1 <= number < (1 << count) for number, count in zip(box, leaves)])


def are_boxes(leaves, row, least):
    """Whether the row is at least so many boxes, at most MOST_BOXES, no two alike."""
    if len(row) % len(leaves) != 0:
        return False
    boxes = boxes_in(leaves, row)
    if not least <= len(boxes) <= MOST_BOXES:
        return False
    if not all([is_in_field(leaves, box) for box in boxes]):
        return False
    return len(set(boxes)) == len(boxes)


def is_box(leaves, row):
    return len(row) == len(leaves) and is_in_field(leaves, row)
