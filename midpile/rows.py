"""Rows of numbers, with the one at the row's share kept at hand by two piles."""

from midpile.errors import Empty, NoThing
from midpile.piles import Pile, Turned
from midpile.places import check_share, place


def move_top(source, target):
    target.put(source.take(source.top()[1]))


class Midrow:
    def __init__(self, part=1, whole=2):
        check_share(part, whole)
        self.part = part
        self.whole = whole
        self.low = Turned()
        self.high = Pile()
        self.numbers = {}
        # Kept apart from the numbers, since the coming of one that has gone is not given again.
        self.last_coming = 0

    def many(self):
        return len(self.numbers)

    def put(self, number):
        coming = self.last_coming + 1
        thing = (number, coming)
        self.pile_of(thing).put(thing)
        self.numbers[coming] = number
        self.last_coming = coming
        self.settle()
        return coming

    def take(self, coming):
        number = self.number_of(coming)
        self.pile_of((number, coming)).take(coming)
        self.numbers.pop(coming)
        self.settle()
        return number

    def number_of(self, coming):
        if coming not in self.numbers:
            raise NoThing("the row has no thing with this coming")
        return self.numbers[coming]

    def oldest(self):
        if len(self.numbers) == 0:
            raise Empty("a row without things has no oldest")
        return min(self.numbers)

    def share(self):
        return self.low.top()

    def piles(self):
        return (self.low.told(), self.high.told())

    def turn(self, part, whole):
        check_share(part, whole)
        self.part = part
        self.whole = whole
        self.settle()

    def burden(self):
        number = self.share()[0]
        # No number in the high pile is less than the told one and none in the low pile is greater, and those
        # that are the same bring nothing: so the piles' weights are enough.
        above = self.high.weight() - number * self.high.many()
        below = number * self.low.many() - self.low.weight()
        return self.part * above + (self.whole - self.part) * below

    def pile_of(self, thing):
        # A row with things has one in the low pile, so where that is without any, so is the high one.
        if self.low.many() == 0:
            return self.low
        if self.high.ahead(self.low.top(), thing):
            return self.high
        return self.low

    def settle(self):
        wanted = place(len(self.numbers), self.part, self.whole)
        while self.low.many() > wanted:
            move_top(self.low, self.high)
        while self.low.many() < wanted:
            move_top(self.high, self.low)
