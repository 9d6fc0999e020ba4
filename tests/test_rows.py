import random
import unittest

from checks import (LEAST, MOST, REFUSED_SHARES, SHARES, assert_form, assert_refused, assert_refused_without_change,
                    assert_thing, assert_things, assert_whole, changed_places, comes_before, comes_behind,
                    counted_burden, counted_place, figures_in_twos, in_order, number_rows)
from midpile.errors import Empty, MidError, NoShare, NoThing
from midpile.places import place
from midpile.rows import Midrow

SMALL_SIZES = [0, 1, 2, 3, 4, 5, 7, 8, 9]


class Watched:
    """A row, held against all that is promised of it behind every put, take and turn."""

    def __init__(self, test, row, part, whole):
        self.test = test
        self.row = row
        self.part = part
        self.whole = whole
        self.things = {}
        self.given = 0
        self.check()

    def put(self, number):
        before = self.row.piles()
        coming = self.row.put(number)
        self.given += 1
        self.test.assertEqual(coming, self.given)
        assert_whole(self.test, coming)
        self.check_bound(before)
        self.things[coming] = (number, coming)
        self.check()

    def take(self, coming):
        before = self.row.piles()
        number = self.row.take(coming)
        self.test.assertEqual(number, self.things[coming][0])
        assert_whole(self.test, number)
        self.check_bound(before)
        self.things.pop(coming)
        self.check()

    def turn(self, part, whole):
        self.row.turn(part, whole)
        self.part = part
        self.whole = whole
        self.check()

    def check_bound(self, before):
        # Called ahead of the change in things: the bound goes by the number of things before the deed.
        most = 4 * figures_in_twos(len(self.things))
        for old, new in zip(before, self.row.piles()):
            self.test.assertLessEqual(changed_places(old, new), most)

    def check(self):
        self.test.assertEqual(self.row.many(), len(self.things))
        assert_whole(self.test, self.row.many())
        self.check_piles()
        if self.things:
            self.check_share()
        else:
            self.check_none()

    def check_piles(self):
        piles = self.row.piles()
        self.test.assertIs(type(piles), tuple)
        low, high = piles
        assert_things(self.test, low)
        assert_things(self.test, high)
        assert_form(self.test, low, comes_behind)
        assert_form(self.test, high, comes_before)
        self.test.assertEqual(len(low), place(len(self.things), self.part, self.whole))
        # Each of the low one's before each of the high one's: then both put in order, one behind the other, are the
        # whole row put in order.
        self.test.assertEqual(in_order(low) + in_order(high), in_order(self.things.values()))
        self.test.assertEqual(self.row.piles(), piles)

    def check_share(self):
        told = self.row.share()
        assert_thing(self.test, told)
        self.test.assertEqual(told, self.row.piles()[0][0])
        at = counted_place(len(self.things), self.part, self.whole)
        self.test.assertEqual(told, in_order(self.things.values())[at - 1])
        self.test.assertEqual(self.row.oldest(), min(self.things))
        assert_whole(self.test, self.row.oldest())
        numbers = [thing[0] for thing in self.things.values()]
        self.test.assertEqual(self.row.burden(), counted_burden(numbers, told[0], self.part, self.whole))
        assert_whole(self.test, self.row.burden())

    def check_none(self):
        self.test.assertEqual(self.row.piles(), ([], []))
        for ask in [self.row.share, self.row.burden, self.row.oldest]:
            with self.test.assertRaises(Empty):
                ask()


def asked_or_none(ask):
    try:
        return ask()
    except Empty:
        return None


def state_of(row):
    asked = [asked_or_none(ask) for ask in [row.share, row.burden, row.oldest]]
    return (row.piles(), row.many(), asked)


def row_of(numbers, part=1, whole=2):
    row = Midrow(part, whole)
    for number in numbers:
        row.put(number)
    return row


class RowTest(unittest.TestCase):
    def watched(self, part, whole, numbers=()):
        watched = Watched(self, Midrow(part, whole), part, whole)
        for number in numbers:
            watched.put(number)
        return watched

    def with_each_row(self, shares, sizes, deeds):
        for part, whole in shares:
            for many in sizes:
                for name, numbers in number_rows(many).items():
                    with self.subTest(part=part, whole=whole, many=many, numbers=name):
                        deeds(self.watched(part, whole, numbers))

    def assert_refused(self, name, row, deed):
        assert_refused_without_change(self, name, deed, lambda: state_of(row))


class DeedsTest(RowTest):
    """[9] and [11], behind every put, take and turn."""

    def take_all(self, choose):
        def deeds(watched):
            while watched.things:
                watched.take(choose(watched))

        self.with_each_row(SHARES, SMALL_SIZES, deeds)

    def test_put_and_take_the_oldest_of_small_rows(self):
        self.take_all(lambda watched: watched.row.oldest())

    def test_take_the_told_one_of_small_rows(self):
        self.take_all(lambda watched: watched.row.share()[1])

    def test_take_the_youngest_of_small_rows(self):
        self.take_all(lambda watched: max(watched.things))

    def test_take_any_one_of_small_rows(self):
        for part, whole in SHARES:
            for many in [1, 2, 3, 4, 7, 8]:
                for coming in range(1, many + 1):
                    for name in ["rising", "falling", "alike", "mixed"]:
                        with self.subTest(part=part, whole=whole, many=many, coming=coming, numbers=name):
                            watched = self.watched(part, whole, number_rows(many)[name])
                            watched.take(coming)
                            watched.put(0)
                            watched.put(MOST)
                            watched.put(-MOST)

    def test_rows_of_some_hundred(self):
        chance = random.Random(11)

        def deeds(watched):
            for each in range(4):
                watched.take(watched.row.share()[1])
                watched.take(watched.row.oldest())
                watched.take(watched.row.piles()[0][-1][1])
                watched.take(chance.choice(sorted(watched.things)))
                if watched.row.piles()[1]:
                    watched.take(watched.row.piles()[1][0][1])
                watched.put(chance.randrange(-1000, 1000))

        # With the share of part 0 the low pile has but one thing, so what is taken from its end is the told one.
        self.with_each_row([(1, 2), (0, 1), (1, 1), (3, 7), (LEAST + 3, MOST)], [140], deeds)

    def test_a_row_of_some_hundred_to_its_end(self):
        chance = random.Random(12)
        for part, whole in [(1, 2), (1, 3), (0, 1), (1, 1)]:
            with self.subTest(part=part, whole=whole):
                watched = self.watched(part, whole, number_rows(200)["mixed"])
                while watched.things:
                    watched.take(chance.choice(sorted(watched.things)))

    def test_puts_takes_and_turns_mixed(self):
        for spread in [1, 4, 1000, MOST]:
            chance = random.Random(spread)
            watched = self.watched(1, 2)
            for each in range(400):
                deed = chance.randrange(10)
                if deed < 5 or not watched.things:
                    watched.put(chance.randrange(-spread, spread + 1))
                elif deed < 9:
                    watched.take(chance.choice(sorted(watched.things)))
                else:
                    watched.turn(*chance.choice(SHARES))

    def test_a_window_of_the_youngest(self):
        for part, whole in [(1, 2), (9, 10), (0, 3)]:
            chance = random.Random(part)
            watched = self.watched(part, whole)
            for each in range(200):
                if len(watched.things) == 20:
                    watched.take(watched.row.oldest())
                watched.put(chance.randrange(10))

    def test_two_thousand(self):
        numbers = number_rows(2000)["great"]
        row = row_of(numbers, 3, 4)
        ordered = in_order([(number, at + 1) for at, number in enumerate(numbers)])
        self.assertEqual(row.share(), ordered[1499])
        row.turn(0, 1)
        self.assertEqual(row.share(), ordered[0])
        row.turn(1, 1)
        self.assertEqual(row.share(), ordered[1999])
        for coming in range(1, 2001):
            self.assertEqual(row.take(coming), numbers[coming - 1])
        self.assertEqual(state_of(row), (([], []), 0, [None, None, None]))

    def test_a_told_row_by_hand(self):
        row = Midrow()
        self.assertEqual([row.put(number) for number in [30, 10, 20, 10]], [1, 2, 3, 4])
        self.assertEqual(row.share(), (10, 4))
        self.assertEqual(row.piles(), ([(10, 4), (10, 2)], [(20, 3), (30, 1)]))
        self.assertEqual(row.burden(), 30)
        self.assertEqual(row.take(2), 10)
        self.assertEqual(row.share(), (20, 3))
        self.assertEqual(row.piles()[1], [(30, 1)])
        self.assertEqual(row.burden(), 20)


class ComingTest(RowTest):
    """[8]"""

    def test_no_coming_is_given_twice(self):
        row = Midrow()
        self.assertEqual([row.put(5) for each in range(3)], [1, 2, 3])
        row.take(3)
        self.assertEqual(row.put(5), 4)
        for coming in [1, 2, 4]:
            row.take(coming)
        self.assertEqual(row.put(5), 5)
        row.take(5)
        self.assertEqual(row.put(-5), 6)
        self.assertEqual(row.share(), (-5, 6))

    def test_what_is_refused_gives_no_coming(self):
        row = Midrow()
        for deed in [lambda: row.take(1), lambda: row.turn(2, 1), row.share, row.burden, row.oldest]:
            with self.assertRaises(MidError):
                deed()
        self.assertEqual(row.put(8), 1)
        row.turn(1, 3)
        self.assertEqual(row.put(8), 2)

    def test_take_tells_the_number(self):
        numbers = [4, -4, 0, 1, MOST, -MOST, 4]
        row = row_of(numbers)
        for coming in [3, 1, 7, 5, 4, 2, 6]:
            number = row.take(coming)
            self.assertEqual(number, numbers[coming - 1])
            assert_whole(self, number)

    def test_number_of(self):
        numbers = [4, -4, 0, 1, MOST, -MOST, 4]
        row = row_of(numbers)
        before = state_of(row)
        told = [row.number_of(coming) for coming in range(1, 8)]
        self.assertEqual(told, numbers)
        for number in told:
            assert_whole(self, number)
        self.assertEqual(state_of(row), before)
        row.take(4)
        self.assertEqual([row.number_of(coming) for coming in [1, 2, 3, 5, 6, 7]], numbers[:3] + numbers[4:])

    def test_no_thing(self):
        for part, whole in SHARES:
            for many in [0, 1, 2, 5]:
                row = row_of(range(-many, 0), part, whole)
                for coming in [many + 1, many + 2, 0, -1, -many, MOST, LEAST, -MOST]:
                    with self.subTest(part=part, whole=whole, many=many, coming=coming):
                        self.assert_refused(NoThing, row, lambda: row.take(coming))
                        self.assert_refused(NoThing, row, lambda: row.number_of(coming))

    def test_no_thing_of_one_that_has_gone(self):
        for part, whole in SHARES:
            row = row_of([3, 1, 2, 3, 1], part, whole)
            for coming in [2, 5, 1, 3, 4]:
                row.take(coming)
                with self.subTest(part=part, whole=whole, coming=coming):
                    self.assert_refused(NoThing, row, lambda: row.take(coming))
                    self.assert_refused(NoThing, row, lambda: row.number_of(coming))
            self.assertEqual(row.put(1), 6)

    def test_oldest(self):
        row = Midrow()
        self.assert_refused(Empty, row, row.oldest)
        for number in [9, 8, 7, 6, 5, 4]:
            row.put(number)
            self.assertEqual(row.oldest(), 1)
        for coming, oldest in [(2, 1), (6, 1), (1, 3), (4, 3), (3, 5)]:
            row.take(coming)
            self.assertEqual(row.oldest(), oldest)
        row.put(0)
        self.assertEqual(row.oldest(), 5)
        row.take(5)
        self.assertEqual(row.oldest(), 7)
        row.take(7)
        self.assert_refused(Empty, row, row.oldest)
        row.put(1)
        self.assertEqual(row.oldest(), 8)
        assert_whole(self, row.oldest())


class ShareTest(RowTest):
    """[8], [9] and [10]: the share of a row and its turns"""

    def test_made_without_a_share_it_is_the_middle(self):
        numbers = [5, 1, 4, 2, 3, 6]
        watched = Watched(self, Midrow(), 1, 2)
        shares = []
        for number in numbers:
            watched.put(number)
            shares.append(watched.row.share()[0])
        self.assertEqual(shares, [5, 1, 4, 2, 3, 3])

    def test_made_with_a_part_alone(self):
        for part in [0, 1, 2]:
            for row in [Midrow(part), Midrow(part=part)]:
                watched = Watched(self, row, part, 2)
                for number in [5, 1, 4, 2, 3]:
                    watched.put(number)
                self.assertEqual(row.share()[0], [1, 3, 5][part])

    def test_made_with_a_whole_alone(self):
        watched = Watched(self, Midrow(whole=5), 1, 5)
        for number in range(10, 0, -1):
            watched.put(number)
        self.assertEqual(watched.row.share()[0], 2)

    def test_made_with_both(self):
        for row in [Midrow(3, 4), Midrow(part=3, whole=4), Midrow(whole=4, part=3)]:
            watched = Watched(self, row, 3, 4)
            for number in range(8):
                watched.put(number)
            self.assertEqual(row.share(), (5, 6))

    def test_the_ends(self):
        for whole in [1, 2, 9, MOST]:
            first = row_of([4, 2, 9, 2, 9], 0, whole)
            last = row_of([4, 2, 9, 2, 9], whole, whole)
            self.assertEqual((first.share(), len(first.piles()[0])), ((2, 2), 1))
            self.assertEqual((last.share(), last.piles()[1]), ((9, 5), []))

    def test_no_share_when_made(self):
        for part, whole in REFUSED_SHARES:
            with self.subTest(part=part, whole=whole):
                assert_refused(self, NoShare, lambda: Midrow(part, whole))
        for part in [-1, 3, MOST, -MOST]:
            with self.subTest(part=part):
                assert_refused(self, NoShare, lambda: Midrow(part))
        for whole in [0, -1]:
            assert_refused(self, NoShare, lambda: Midrow(whole=whole))

    def test_turn(self):
        for many in [0, 1, 2, 3, 8, 60]:
            for name, numbers in number_rows(many).items():
                with self.subTest(many=many, numbers=name):
                    watched = self.watched(1, 2, numbers)
                    for part, whole in SHARES + SHARES[::-1]:
                        watched.turn(part, whole)

    def test_a_turn_holds_from_then_on(self):
        watched = self.watched(1, 2, [5, 3, 8])
        watched.turn(1, 1)
        for number in [9, 1, 12, 4]:
            watched.put(number)
        self.assertEqual(watched.row.share(), (12, 6))
        watched.turn(0, 5)
        watched.take(5)
        self.assertEqual(watched.row.share(), (3, 2))

    def test_a_turn_of_a_row_without_things_holds(self):
        watched = self.watched(0, 1)
        watched.turn(1, 1)
        watched.put(1)
        watched.put(2)
        self.assertEqual(watched.row.share(), (2, 2))
        for coming in [1, 2]:
            watched.take(coming)
        watched.put(7)
        watched.put(9)
        self.assertEqual(watched.row.share(), (9, 4))

    def test_a_refused_turn_leaves_all_as_it_was(self):
        for part, whole in [(1, 2), (2, 4), (0, 3), (3, 3), (LEAST, MOST)]:
            for many in [0, 1, 2, 9]:
                for refused_part, refused_whole in REFUSED_SHARES:
                    with self.subTest(part=part, whole=whole, many=many, refused=(refused_part, refused_whole)):
                        watched = self.watched(part, whole, number_rows(many)["mixed"])
                        row = watched.row
                        self.assert_refused(NoShare, row, lambda: row.turn(refused_part, refused_whole))
                        watched.put(3)
                        watched.put(-3)

    def test_empty(self):
        for part, whole in SHARES:
            row = Midrow(part, whole)
            for number in [None, 4, -MOST]:
                if number is not None:
                    row.take(row.put(number))
                with self.subTest(part=part, whole=whole, number=number):
                    self.assert_refused(Empty, row, row.share)
                    self.assert_refused(Empty, row, row.burden)
                    self.assert_refused(Empty, row, row.oldest)
                    self.assertEqual(row.piles(), ([], []))
                    self.assertEqual(row.many(), 0)


class BurdenTest(RowTest):
    """[12]"""

    def test_no_whole_number_has_a_lesser_burden(self):
        for part, whole in SHARES:
            for many in [1, 2, 3, 4, 7, 24]:
                for name, numbers in number_rows(many).items():
                    burden = row_of(numbers, part, whole).burden()
                    near = [number + step for number in numbers for step in [-2, -1, 0, 1, 2]]
                    far = [0, LEAST, -LEAST, MOST, -MOST, 10 ** 70, -10 ** 70]
                    with self.subTest(part=part, whole=whole, many=many, numbers=name):
                        least = min(counted_burden(numbers, c, part, whole) for c in near + far)
                        self.assertEqual(burden, least)

    def test_by_hand(self):
        self.assertEqual(row_of([1, 2, 10]).burden(), 1 + 8)
        self.assertEqual(row_of([1, 2, 10], 1, 3).burden(), 1 + 9)
        self.assertEqual(row_of([1, 2, 10], 3, 4).burden(), 9 + 8)
        self.assertEqual(row_of([-5], 1, 2).burden(), 0)
        self.assertEqual(row_of([-7, -7, -7], 2, 3).burden(), 0)

    def test_part_and_whole_are_as_they_were_told(self):
        numbers = [3, 9, -4, 11, 6]
        self.assertEqual(row_of(numbers, 1, 2).burden(), 10 + 3 + 3 + 5)
        self.assertEqual(row_of(numbers, 2, 4).burden(), 42)
        self.assertEqual(row_of(numbers, LEAST, 2 * LEAST).burden(), 21 * LEAST)
        row = row_of(numbers)
        row.turn(2, 4)
        self.assertEqual(row.burden(), 42)
        row.turn(1, 2)
        self.assertEqual(row.burden(), 21)

    def test_the_ends_have_none(self):
        self.assertEqual(row_of([3, 9, -4], 0, 5).burden(), 0)
        self.assertEqual(row_of([3, 9, -4], 5, 5).burden(), 0)

    def test_the_kind_of_none(self):
        for part, whole in SHARES:
            assert_whole(self, row_of([1], part, whole).burden())


class ToldTest(RowTest):
    """[2]"""

    def test_told_piles_are_the_askers_own(self):
        for many in [0, 1, 2, 9, 40]:
            watched = self.watched(1, 3, number_rows(many)["mixed"])
            before = state_of(watched.row)
            for pile in watched.row.piles():
                pile.reverse()
            for pile in watched.row.piles():
                pile.clear()
            for pile in watched.row.piles():
                pile.append((0, 1))
            self.assertEqual(state_of(watched.row), before)
            watched.put(3)
            watched.take(1)
            watched.turn(1, 2)

    def test_told_piles_stay_through_later_deeds(self):
        row = Midrow()
        kept = []

        def keep():
            low, high = row.piles()
            kept.append((low, high, tuple(low), tuple(high)))

        keep()
        for number in number_rows(40)["mixed"]:
            row.put(number)
            keep()
        for part, whole in SHARES:
            row.turn(part, whole)
            keep()
        for coming in range(1, 41):
            row.take(coming)
            keep()
        for low, high, low_copied, high_copied in kept:
            self.assertEqual((tuple(low), tuple(high)), (low_copied, high_copied))

    def test_asking_changes_nothing(self):
        row = row_of(number_rows(30)["mixed"], 2, 5)
        before = state_of(row)
        for each in range(3):
            row.number_of(7)
            self.assertEqual(state_of(row), before)

    def test_rows_keep_nothing_in_common(self):
        one = row_of([1, 2, 3])
        other = Midrow()
        self.assertEqual(state_of(other), (([], []), 0, [None, None, None]))
        self.assertEqual(other.put(9), 1)
        one.turn(1, 1)
        other.put(10)
        self.assertEqual(other.share(), (9, 1))
        self.assertEqual(one.many(), 3)

    def test_arguments_by_their_names(self):
        row = Midrow(whole=3, part=1)
        self.assertEqual(row.put(number=6), 1)
        self.assertEqual(row.number_of(coming=1), 6)
        row.turn(part=1, whole=1)
        self.assertEqual(row.take(coming=1), 6)


if __name__ == "__main__":
    unittest.main()
