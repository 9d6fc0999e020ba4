import random
import unittest

from checks import (LEAST, MOST, assert_form, assert_refused_without_change, assert_thing, assert_things,
                    assert_whole, changed_places, comes_before, comes_behind, figures_in_twos, in_order, number_rows)
from midpile.errors import Empty, NoThing, Twice
from midpile.piles import Pile, Turned

SMALL_SIZES = [0, 1, 2, 3, 4, 5, 6, 7, 8, 9, 15, 16, 17]


def coming_rows(many):
    chance = random.Random(many + 1)
    mixed = list(range(-many, many))
    chance.shuffle(mixed)
    return {
        "rising": list(range(1, many + 1)),
        "falling": list(range(many, 0, -1)),
        "below 0": list(range(-many, 0)),
        "mixed": mixed[:many],
        "great": [MOST - each for each in range(many)],
        "great below 0": [-MOST + each for each in range(many)],
    }


def thing_rows(many):
    for number_name, numbers in number_rows(many).items():
        for coming_name, comings in coming_rows(many).items():
            yield f"{many} things, numbers {number_name}, comings {coming_name}", list(zip(numbers, comings))


class Watched:
    """A pile, held against all that is promised of it behind every put and take."""

    def __init__(self, test, pile, ahead):
        self.test = test
        self.pile = pile
        self.ahead = ahead
        self.things = {}
        self.check()

    def put(self, thing):
        before = self.pile.told()
        self.pile.put(thing)
        self.things[thing[1]] = thing
        self.check_bound(before)
        self.check()

    def take(self, coming):
        before = self.pile.told()
        taken = self.pile.take(coming)
        self.test.assertEqual(taken, self.things.pop(coming))
        assert_thing(self.test, taken)
        self.check_bound(before)
        self.check()

    def check_bound(self, before):
        changed = changed_places(before, self.pile.told())
        self.test.assertLessEqual(changed, figures_in_twos(len(before)))

    def check(self):
        told = self.pile.told()
        assert_things(self.test, told)
        assert_form(self.test, told, self.ahead)
        self.test.assertEqual(in_order(told), in_order(self.things.values()))
        self.test.assertEqual(self.pile.told(), told)
        self.test.assertEqual(self.pile.many(), len(self.things))
        assert_whole(self.test, self.pile.many())
        self.test.assertEqual(self.pile.weight(), sum(thing[0] for thing in self.things.values()))
        assert_whole(self.test, self.pile.weight())
        self.check_top(told)

    def check_top(self, told):
        if not told:
            with self.test.assertRaises(Empty):
                self.pile.top()
            return
        top = self.pile.top()
        assert_thing(self.test, top)
        self.test.assertEqual(top, told[0])
        for thing in told[1:]:
            if not self.ahead(top, thing):
                self.test.fail((top, thing))


def state_of(pile):
    try:
        top = pile.top()
    except Empty:
        top = None
    return (pile.told(), top, pile.many(), pile.weight())


class PileChecks:
    """The tests of both kinds; kind and ahead are set by the classes below."""

    def new(self):
        return self.kind()

    def pile_of(self, things):
        pile = self.new()
        for thing in things:
            pile.put(thing)
        return pile

    def watched(self, things=()):
        watched = Watched(self, self.new(), type(self).ahead)
        for thing in things:
            watched.put(thing)
        return watched

    def assert_refused(self, name, pile, deed):
        assert_refused_without_change(self, name, deed, lambda: state_of(pile))

    # [3] and [5]: which one is ahead

    def test_ahead_of_two_things(self):
        numbers = [-MOST, -LEAST, -1, 0, 1, 2, LEAST, MOST]
        things = [(number, coming) for number in numbers for coming in numbers]
        pile = self.new()
        for one in things:
            for other in things:
                told = pile.ahead(one, other)
                self.assertIs(told, type(self).ahead(one, other), (one, other))

    def test_ahead_of_alike_numbers_goes_by_the_coming(self):
        pile = self.new()
        less_is_ahead = self.kind is Pile
        self.assertIs(pile.ahead((5, 1), (5, 2)), less_is_ahead)
        self.assertIs(pile.ahead((5, 2), (5, 1)), not less_is_ahead)
        self.assertIs(pile.ahead((4, 9), (5, 1)), less_is_ahead)
        self.assertIs(pile.ahead((5, 1), (4, 9)), not less_is_ahead)

    def test_a_thing_is_not_ahead_of_itself(self):
        pile = self.pile_of([(3, 1), (3, 2)])
        for thing in [(0, 0), (3, 1), (3, 2), (-MOST, MOST), (MOST, -MOST)]:
            self.assertIs(pile.ahead(thing, thing), False)
            self.assertIs(pile.ahead(thing, tuple(list(thing))), False)

    def test_asking_what_is_ahead_changes_nothing(self):
        pile = self.pile_of([(3, 1), (1, 2), (2, 3)])
        before = state_of(pile)
        pile.ahead((9, 9), (3, 1))
        pile.ahead((3, 1), (1, 2))
        self.assertEqual(state_of(pile), before)

    # [5] and [6]: the form and the bound

    def test_put_and_take_the_top_of_small_piles(self):
        for many in SMALL_SIZES:
            for name, things in thing_rows(many):
                with self.subTest(name):
                    watched = self.watched(things)
                    while watched.things:
                        watched.take(watched.pile.top()[1])

    def test_take_the_last_one_of_small_piles(self):
        for many in SMALL_SIZES:
            for name, things in thing_rows(many):
                with self.subTest(name):
                    watched = self.watched(things)
                    while watched.things:
                        watched.take(watched.pile.told()[-1][1])

    def test_take_any_one_of_small_piles_and_put_it_in_again(self):
        for many in SMALL_SIZES:
            for name, things in thing_rows(many):
                with self.subTest(name):
                    watched = self.watched(things)
                    for thing in things:
                        watched.take(thing[1])
                        watched.put(thing)

    def test_take_each_place_of_small_piles(self):
        for many in SMALL_SIZES:
            for number_name, numbers in number_rows(many).items():
                things = list(zip(numbers, range(many)))
                for at in range(many):
                    with self.subTest(many=many, numbers=number_name, at=at):
                        watched = self.watched(things)
                        watched.take(watched.pile.told()[at][1])

    def test_piles_of_some_hundred(self):
        for name, things in thing_rows(130):
            with self.subTest(name):
                watched = self.watched(things)
                for at in [0, 128, 1, 63, 64, 2, 31, 100, 0, 0]:
                    watched.take(watched.pile.told()[at][1])

    def test_piles_of_some_hundred_to_their_end(self):
        chance = random.Random(6)
        for name, numbers in number_rows(300).items():
            with self.subTest(name):
                watched = self.watched(zip(numbers, range(300)))
                while watched.things:
                    watched.take(chance.choice(watched.pile.told())[1])

    def test_puts_and_takes_in_turns(self):
        for spread in [1, 3, 1000, MOST]:
            chance = random.Random(spread)
            watched = self.watched()
            for coming in range(400):
                if watched.things and chance.randrange(5) < 2:
                    watched.take(chance.choice(watched.pile.told())[1])
                else:
                    watched.put((chance.randrange(-spread, spread + 1), coming))

    def test_a_new_one_at_the_top_of_each_size(self):
        watched = self.watched()
        step = -1 if self.kind is Pile else 1
        for coming in range(1, 260):
            watched.put((step * coming, coming))
            self.assertEqual(watched.pile.top(), (step * coming, coming))

    def test_the_one_that_fills_the_gap_goes_up(self):
        # The last one lies under another branch than the one that is taken, and is ahead of the one above the gap.
        sign = 1 if self.kind is Pile else -1
        numbers = [0, 10, 1, 11, 12, 2, 3]
        watched = self.watched([(sign * number, number) for number in numbers])
        self.assertEqual([thing[1] for thing in watched.pile.told()], numbers)
        watched.take(11)

    def test_all_of_two_thousand(self):
        chance = random.Random(2000)
        pile = self.pile_of([(chance.randrange(-LEAST, LEAST), coming) for coming in range(2000)])
        things = in_order(pile.told())
        if self.kind is Turned:
            things.reverse()
        self.assertEqual([pile.take(pile.top()[1]) for each in range(2000)], things)
        self.assertEqual(state_of(pile), ([], None, 0, 0))

    def test_alike_numbers_go_by_their_comings(self):
        for comings in coming_rows(20).values():
            pile = self.pile_of([(7, coming) for coming in comings])
            taken = [pile.take(pile.top()[1])[1] for each in comings]
            self.assertEqual(taken, sorted(comings, reverse=self.kind is Turned))

    def test_numbers_of_sixty_figures(self):
        numbers = [MOST, -MOST, LEAST, -LEAST, MOST - 1, 1 - MOST, 0, LEAST + 1, -LEAST - 1]
        watched = self.watched([(number, -number) for number in numbers])
        taken = []
        while watched.things:
            taken.append(watched.pile.top()[0])
            watched.take(-taken[-1])
        self.assertEqual(taken, sorted(numbers, reverse=self.kind is Turned))

    # [7]: what is refused

    def test_twice(self):
        for many in [1, 2, 3, 8, 40]:
            things = [(each % 5 - 2, each) for each in range(-3, many - 3)]
            pile = self.pile_of(things)
            for number, coming in things:
                for another in [number, number + 1, number - 1, MOST, -MOST]:
                    with self.subTest(many=many, coming=coming, another=another):
                        self.assert_refused(Twice, pile, lambda: pile.put((another, coming)))
                self.assertEqual(pile.take(coming), (number, coming))
                pile.put((number, coming))

    def test_twice_of_a_great_coming(self):
        pile = self.pile_of([(1, MOST), (2, -MOST)])
        self.assert_refused(Twice, pile, lambda: pile.put((3, 10 ** 60 - 1)))
        self.assert_refused(Twice, pile, lambda: pile.put((3, 1 - 10 ** 60)))

    def test_the_same_number_with_another_coming_is_not_refused(self):
        watched = self.watched([(4, 1), (4, 2), (4, 4)])
        self.assertEqual(watched.pile.many(), 3)

    def test_no_thing_of_a_coming_never_put_in(self):
        for things in [[], [(5, 1)], [(5, 1), (6, 2), (7, 3), (1, -4)]]:
            pile = self.pile_of(things)
            for coming in [0, 5, 6, 7, -1, MOST, -MOST]:
                with self.subTest(things=things, coming=coming):
                    self.assert_refused(NoThing, pile, lambda: pile.take(coming))

    def test_no_thing_of_a_coming_that_was_taken(self):
        for many in [1, 2, 3, 7, 20]:
            for at in range(many):
                pile = self.pile_of([(each * 7 % 5, each) for each in range(many)])
                coming = pile.told()[at][1]
                pile.take(coming)
                with self.subTest(many=many, at=at):
                    self.assert_refused(NoThing, pile, lambda: pile.take(coming))

    def test_a_taken_coming_is_put_in_again_with_another_number(self):
        for many in [1, 2, 3, 4, 7, 8]:
            for another in [-MOST, -1, 0, 3, MOST]:
                watched = self.watched([(each, each) for each in range(many)])
                for coming in range(many):
                    watched.take(coming)
                    watched.put((another, coming))
                    pile = watched.pile
                    self.assert_refused(Twice, pile, lambda: pile.put((coming, coming)))
                    self.assertEqual(pile.weight(), another * (coming + 1) + sum(range(coming + 1, many)))

    def test_empty(self):
        pile = self.new()
        self.assert_refused(Empty, pile, pile.top)
        self.assertEqual(state_of(pile), ([], None, 0, 0))
        assert_whole(self, pile.weight())
        pile.put((9, 1))
        self.assertEqual(pile.top(), (9, 1))
        pile.take(1)
        self.assert_refused(Empty, pile, pile.top)
        self.assertEqual(state_of(pile), ([], None, 0, 0))
        assert_whole(self, pile.weight())
        pile.put((-3, 1))
        self.assertEqual(state_of(pile), ([(-3, 1)], (-3, 1), 1, -3))

    def test_weight(self):
        pile = self.pile_of([(MOST, 1), (MOST, 2), (-5, 3), (0, 4)])
        self.assertEqual(pile.weight(), 2 * MOST - 5)
        pile.take(2)
        self.assertEqual(pile.weight(), MOST - 5)
        pile.take(1)
        self.assertEqual(pile.weight(), -5)

    # [2]: lists that are told

    def test_a_told_list_is_the_askers_own(self):
        for many in [0, 1, 2, 7, 30]:
            watched = self.watched([(each * 7 % 11, each) for each in range(many)])
            before = state_of(watched.pile)
            watched.pile.told().clear()
            watched.pile.told().reverse()
            watched.pile.told().append((0, 99))
            self.assertEqual(state_of(watched.pile), before)
            self.assertIsNot(watched.pile.told(), watched.pile.told())
            watched.put((-1, 100))
            watched.put((50, 101))
            watched.take(100)

    def test_a_told_list_stays_through_later_deeds(self):
        pile = self.new()
        kept = []
        for coming in range(40):
            pile.put((coming * 17 % 23, coming))
            kept.append((pile.told(), tuple(pile.told())))
        for coming in range(0, 40, 2):
            pile.take(coming)
            kept.append((pile.told(), tuple(pile.told())))
        for told, copied in kept:
            self.assertEqual(tuple(told), copied)

    def test_piles_keep_nothing_in_common(self):
        one = self.pile_of([(1, 1), (2, 2)])
        other = self.pile_of([(5, 1)])
        one.take(1)
        self.assertEqual(state_of(other), ([(5, 1)], (5, 1), 1, 5))
        self.assertEqual(state_of(one), ([(2, 2)], (2, 2), 1, 2))
        self.assertEqual(state_of(self.new()), ([], None, 0, 0))

    def test_arguments_by_their_names(self):
        pile = self.new()
        pile.put(thing=(4, 1))
        self.assertIs(pile.ahead(one=(4, 1), other=(5, 1)), self.kind is Pile)
        self.assertEqual(pile.take(coming=1), (4, 1))


class PileTest(PileChecks, unittest.TestCase):
    kind = Pile
    ahead = staticmethod(comes_before)

    def test_the_least_is_on_top(self):
        self.assertEqual(self.pile_of([(3, 1), (1, 2), (2, 3), (1, 4)]).top(), (1, 2))


class TurnedTest(PileChecks, unittest.TestCase):
    kind = Turned
    ahead = staticmethod(comes_behind)

    def test_the_greatest_is_on_top(self):
        self.assertEqual(self.pile_of([(1, 1), (3, 2), (2, 3), (3, 4)]).top(), (3, 4))

    def test_stands_under_pile(self):
        self.assertEqual(Turned.__bases__, (Pile,))


if __name__ == "__main__":
    unittest.main()
