"""Piles of things, told as lists with the thing that is ahead of all others on top."""

from midpile.errors import Empty, NoThing, Twice


class Pile:
    def __init__(self):
        self.held = []
        # The place of each coming in the list: a take by a coming needs no search.
        self.spots = {}
        self.total = 0

    def ahead(self, one, other):
        # Python orders tuples by the first value, then by the second: just as things are.
        return one < other

    def many(self):
        return len(self.held)

    def told(self):
        return list(self.held)

    def top(self):
        if len(self.held) == 0:
            raise Empty("a pile without things has no top")
        return self.held[0]

    def weight(self):
        return self.total

    def put(self, thing):
        if thing[1] in self.spots:
            raise Twice("the pile holds a thing with this coming")
        self.held.append(thing)
        self.total += thing[0]
        self.rise(thing, len(self.held) - 1)

    def take(self, coming):
        if coming not in self.spots:
            raise NoThing("the pile holds no thing with this coming")
        at = self.spots.pop(coming)
        thing = self.held[at]
        self.total -= thing[0]
        last = self.held.pop()
        if at < len(self.held):
            self.fill(last, at)
        return thing

    def fill(self, thing, at):
        # The last thing may come from under another branch, so it may have to go up as well as down.
        if self.is_ahead_of_upper(thing, at):
            self.rise(thing, at)
        else:
            self.sink(thing, at)

    def rise(self, thing, at):
        while self.is_ahead_of_upper(thing, at):
            upper = (at - 1) // 2
            self.lay(self.held[upper], at)
            at = upper
        self.lay(thing, at)

    def is_ahead_of_upper(self, thing, at):
        return at > 0 and self.ahead(thing, self.held[(at - 1) // 2])

    def sink(self, thing, at):
        under = self.place_under(at)
        while under is not None and self.ahead(self.held[under], thing):
            self.lay(self.held[under], at)
            at = under
            under = self.place_under(at)
        self.lay(thing, at)

    def place_under(self, at):
        left = 2 * at + 1
        right = left + 1
        if left >= len(self.held):
            return None
        if right < len(self.held) and self.ahead(self.held[right], self.held[left]):
            return right
        return left

    def lay(self, thing, at):
        self.held[at] = thing
        self.spots[thing[1]] = at


class Turned(Pile):
    def ahead(self, one, other):
        return other < one
