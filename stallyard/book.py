"""A book: names with their worths, which stand in a yard that grows and shrinks with them."""

from stallyard.errors import Full, NoCart
from stallyard.layouts import moved
from stallyard.yard import Yard

MOST_NAMES = 96
SIZES = (4, 8, 16, 32, 64, 128)


class Book:
    def __init__(self, rule):
        self.yard = Yard(stalls_wanted(0), rule)
        self.worths = {}

    def write(self, name, worth):
        there = name in self.worths
        if not there:
            self.bring(name)
        self.worths[name] = worth
        return there

    def worth(self, name):
        return self.worths.get(name)

    def drop(self, name):
        if name not in self.worths:
            raise NoCart("the name is not in the book")
        gone = self.worths.pop(name)
        self.yard.take(name)
        self.fit(self.how_many())
        return gone

    def how_many(self):
        return len(self.worths)

    def layout(self):
        return [None if name is None else (name, self.worths[name]) for name in self.yard.stalls()]

    def bring(self, name):
        if self.how_many() >= MOST_NAMES:
            raise Full("the book has as many names as it takes")
        self.fit(self.how_many() + 1)
        self.yard.put(name)

    # A yard that has as many stalls as are wanted stays as it is: by rule 0 a move could turn its layout.
    def fit(self, count):
        many = stalls_wanted(count)
        if many != self.yard.many:
            self.yard = moved(self.yard, many)


def stalls_wanted(count):
    return min([many for many in SIZES if many * 3 >= count * 4])


def alike(one, other):
    return one.worths == other.worths


def changes(one, other):
    names = sorted(set(one.worths) | set(other.worths))
    rows = [(name, one.worth(name), other.worth(name)) for name in names]
    return [row for row in rows if row[1] != row[2]]
