"""The names of layers."""

MOST_LETTERS = 8
LETTERS = "abcdefghijklmnopqrstuvwxyz"


def is_name(thing):
    if not isinstance(thing, str) or len(thing) < 1 or len(thing) > MOST_LETTERS:
        return False
    return all([letter in LETTERS for letter in thing])


# What each name is told with, but for those with 0.
def told_by_names(names, numbers):
    return dict([(name, number) for name, number in zip(names, numbers) if number != 0])
