"""Ways round the ring, and the three rules that tell who keeps a stall."""

FIRST = 0
FAR = 2


def way(name, at, many):
    return (at - name) % many


# The cart goes on from its wish, so it meets the stall with the shorter way first.
def passes(name, passed, at, many):
    return way(name, passed, many) < way(name, at, many)


def keeps(rule, one, other, at, many):
    if rule == FIRST:
        return True
    if rule == FAR:
        longer = way(one, at, many) - way(other, at, many)
        if longer != 0:
            return longer > 0
    return one < other
