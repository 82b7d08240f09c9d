"""A yard: stalls in a ring, each with a cart's name or None."""

from stallyard.errors import Full, Here, NoCart, NoSize
from stallyard.rules import keeps, passes, way

LEAST_STALLS = 2
MOST_STALLS = 200


def is_size(many):
    return many >= LEAST_STALLS and many <= MOST_STALLS


class Yard:
    def __init__(self, many, rule):
        # The refusal doesn't show the number: Python won't write one of some thousand figures.
        if not is_size(many):
            raise NoSize(f"a yard has {LEAST_STALLS} to {MOST_STALLS} stalls")
        self.many = many
        self.rule = rule
        self.cells = [None] * many

    def put(self, name):
        if self.where(name) is not None:
            raise Here("the cart is in the yard already")
        # One stall stays free, since every walk round the ring ends at a free one.
        if self.how_many() >= self.many - 1:
            raise Full("all stalls but one are taken")
        told = []
        coming = name
        at = self.wish(name)
        while self.cells[at] is not None:
            standing = self.cells[at]
            if not keeps(self.rule, standing, coming, at, self.many):
                told.append(self.stand(coming, at))
                coming = standing
            at = self.behind(at)
        told.append(self.stand(coming, at))
        return told

    def take(self, name):
        gap = self.where(name)
        if gap is None:
            raise NoCart("the cart is not in the yard")
        told = []
        self.cells[gap] = None
        left = self.nearest_passing(gap)
        while left is not None:
            told.append(self.stand(self.cells[left], gap))
            self.cells[left] = None
            gap = left
            left = self.nearest_passing(gap)
        return told

    def looked(self, name):
        at = self.wish(name)
        seen = [at]
        while self.leads_on(name, at):
            at = self.behind(at)
            seen.append(at)
        return seen

    def where(self, name):
        seen = self.looked(name)
        last = seen[-1]
        return last if self.cells[last] == name else None

    def stalls(self):
        return list(self.cells)

    def names(self):
        return sorted([name for name in self.cells if name is not None])

    def how_many(self):
        return len(self.names())

    def steps(self):
        return sum([way(self.cells[at], at, self.many) for at in range(self.many) if self.cells[at] is not None])

    def wish(self, name):
        return name % self.many

    def behind(self, at):
        return (at + 1) % self.many

    def stand(self, name, at):
        self.cells[at] = name
        return (name, at)

    # Whether a look for the cart goes on from this stall.
    def leads_on(self, name, at):
        standing = self.cells[at]
        if standing is None or standing == name:
            return False
        return keeps(self.rule, standing, name, at, self.many)

    # The stall of the cart that goes into the gap, None where no cart passes it.
    def nearest_passing(self, gap):
        at = self.behind(gap)
        while self.cells[at] is not None:
            if passes(self.cells[at], gap, at, self.many):
                return at
            at = self.behind(at)
        return None
