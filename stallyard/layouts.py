"""Layouts that are right by a rule, and yards made of layouts and of other yards."""

from stallyard.errors import NotLaid, Unlike
from stallyard.rules import keeps, way
from stallyard.yard import Yard


def right(many, rule, layout):
    # Only unlike carts can be told apart by the rules, so a name that stands twice is ruled out first.
    if not each_once(layout) or None not in layout:
        return False
    return all([came_rightly(many, rule, layout, at) for at in range(many)])


def laid(many, rule, layout):
    if not right(many, rule, layout):
        raise NotLaid("the layout is not right by the rule")
    yard = Yard(many, rule)
    yard.cells = list(layout)
    return yard


def moved(yard, many):
    new = Yard(many, yard.rule)
    put_missing(new, yard.stalls())
    return new


def joined(one, other):
    if one.many != other.many or one.rule != other.rule:
        raise Unlike("the numbers of stalls or the rules are unlike")
    new = Yard(one.many, one.rule)
    put_missing(new, one.stalls())
    put_missing(new, other.stalls())
    return new


def each_once(layout):
    names = [name for name in layout if name is not None]
    return len(set(names)) == len(names)


# Whether each stall that this stall's cart has passed holds one that keeps it against this cart.
def came_rightly(many, rule, layout, at):
    name = layout[at]
    if name is None:
        return True
    for step in range(way(name, at, many)):
        passed = (name + step) % many
        standing = layout[passed]
        if standing is None or not keeps(rule, standing, name, passed, many):
            return False
    return True


def put_missing(yard, layout):
    for name in layout:
        if name is not None and yard.where(name) is None:
            yard.put(name)
