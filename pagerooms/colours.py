"""Colours: frames taken so that a task's greatest share of a colour stays as small as can be."""

from pagerooms.errors import NoColour, NoRoom


def check_taking(shares, free, many):
    """Refuse lists that do not fit, then a number that there is not."""
    if len(shares) != len(free) or not shares:
        raise NoColour(None)
    if many < 0 or many > sum(free):
        raise NoRoom(many)


def take(shares, free, many):
    """Tell the colours of so many more frames, one behind the other."""
    check_taking(shares, free, many)
    have = list(shares)
    left = list(free)
    told = []
    for step in range(many):
        colour = least_colour(have, left)
        have[colour] += 1
        left[colour] -= 1
        told.append(colour)
    return told


def least_colour(have, left):
    """Tell the colour with the least share of those with a free frame, of several the least."""
    return min([(have[colour], colour) for colour in range(len(have)) if left[colour] > 0])[1]


def wall(shares, free, many):
    """Tell (m, n): the height of the best taking, and how many a lesser height would have."""
    taken = take(shares, free, many)
    colours = [colour for colour in range(len(shares)) if colour in taken]
    height = max([shares[colour] + taken.count(colour) for colour in colours], default=0)
    lower = 0
    for share, left in zip(shares, free):
        lower += max(0, min(left, height - 1 - share))
    return (height, lower)
