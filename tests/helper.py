"""What several of the tests need."""

import copy

from stallyard.yard import Yard

GREATEST = 10 ** 30 - 1
RULES = (0, 1, 2)


def stood(many, rule, names):
    yard = Yard(many, rule)
    for name in names:
        yard.put(name)
    return yard


def all_told(yard):
    return (yard.many, yard.rule, yard.stalls(), yard.names(), yard.how_many(), yard.steps())


def turned(yard, name):
    """Takes the cart out where it is in the yard, else puts it in where there is room; what is told, or None."""
    if name in yard.stalls():
        return yard.take(name)
    if yard.how_many() < yard.many - 1:
        return yard.put(name)
    return None


def every_yard(many, rule, names):
    """Every yard of these names, each with another layout, and the moves between them."""
    empty = Yard(many, rule)
    found = {tuple(empty.stalls()): empty}
    moves = []
    waiting = [empty]
    while waiting:
        yard = waiting.pop()
        for name in names:
            after = copy.deepcopy(yard)
            told = turned(after, name)
            if told is None:
                continue
            moves.append((yard, name, told, after))
            key = tuple(after.stalls())
            if key not in found:
                found[key] = after
                waiting.append(after)
    return list(found.values()), moves
