"""The share of each window that slides over a list of numbers."""

from midpile.errors import NoWidth
from midpile.rows import Midrow


def slide(numbers, width, part=1, whole=2):
    # Made ahead of the look at the width, since what is no share is refused first.
    row = Midrow(part, whole)
    if width < 1:
        raise NoWidth("a window has a width from 1 on")
    answers = []
    for at, number in enumerate(numbers):
        # A row's comings count from 1, the list's places from 0.
        if at >= width:
            row.take(at - width + 1)
        row.put(number)
        if at + 1 >= width:
            thing = row.share()
            answers.append((thing[0], thing[1] - 1))
    return answers
