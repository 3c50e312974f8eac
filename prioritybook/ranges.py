"""The ranges of whole numbers that several calls share."""


def is_number(number):
    """Whether a new paper or deed may bear the number."""
    return 1 <= number <= 999


def is_somebody(who):
    return 1 <= who <= 20
