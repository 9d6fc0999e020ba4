"""What several test files hold the program against, reckoned by other means than the program's own."""

import random

from midpile.errors import Empty, MidError, NoShare, NoThing, NoWidth, Twice

# The greatest and the least number of sixty figures, both of which may come.
MOST = 10 ** 60 - 1
LEAST = 10 ** 59

SHARES = [(1, 2), (0, 1), (1, 1), (0, 7), (7, 7), (2, 4), (3, 7), (9, 10), (1, MOST), (MOST, MOST), (0, MOST),
          (LEAST + 3, MOST), (MOST - 1, MOST), (LEAST * 4, LEAST * 8)]
REFUSED_SHARES = [(-1, 2), (-MOST, MOST), (3, 2), (2, 1), (MOST, MOST - 1), (0, 0), (1, 0), (-1, 0), (MOST, 0),
                  (0, -1), (-1, -1), (-2, -1), (1, -2), (-LEAST, -MOST), (LEAST, -MOST)]


def comes_before(one, other):
    if one[0] != other[0]:
        return one[0] < other[0]
    return one[1] < other[1]


def comes_behind(one, other):
    return comes_before(other, one)


def figures_in_twos(many):
    figures = 0
    while many > 0:
        many //= 2
        figures += 1
    return figures


def changed_places(before, behind):
    return sum(1 for one, other in zip(before, behind) if one != other)


def in_order(things):
    by_coming = sorted(things, key=lambda thing: thing[1])
    # Python's own order is steady: alike numbers stay in the order of their comings.
    return sorted(by_coming, key=lambda thing: thing[0])


def counted_place(many, part, whole):
    k = min(many, 1)
    while k * whole < many * part:
        k += 1
    return k


def counted_burden(numbers, c, part, whole):
    burden = 0
    for x in numbers:
        if x > c:
            burden += part * (x - c)
        elif x < c:
            burden += (whole - part) * (c - x)
    return burden


def number_rows(many):
    """Rows of so many numbers: rising, falling, alike, mixed, few unlike ones, and of sixty figures."""
    chance = random.Random(many)
    return {
        "rising": [each - many // 2 for each in range(many)],
        "falling": list(range(many, 0, -1)),
        "alike": [5] * many,
        "mixed": [chance.randrange(-1000, 1000) for each in range(many)],
        "few": [chance.randrange(-1, 2) for each in range(many)],
        "great": [chance.choice([-1, 1]) * chance.randrange(LEAST, MOST + 1) for each in range(many)],
        "ends": [chance.choice([-MOST, MOST]) for each in range(many)],
    }


def assert_whole(test, value):
    test.assertIs(type(value), int)


def assert_things(test, things):
    test.assertIs(type(things), list)
    for thing in things:
        assert_thing(test, thing)


def assert_thing(test, thing):
    test.assertIs(type(thing), tuple)
    test.assertEqual([type(each) for each in thing], [int, int])


def assert_form(test, things, ahead):
    for k in range(1, len(things)):
        test.assertFalse(ahead(things[k], things[(k - 1) // 2]), k)


def assert_refused(test, name, deed):
    """Refused with this one of the five refusals and with no other."""
    with test.assertRaises(MidError) as caught:
        deed()
    taken_by = [each for each in [NoShare, NoThing, Empty, Twice, NoWidth] if isinstance(caught.exception, each)]
    test.assertEqual(taken_by, [name])


def assert_refused_without_change(test, name, deed, state):
    before = state()
    for again in range(2):
        assert_refused(test, name, deed)
        test.assertEqual(state(), before)
