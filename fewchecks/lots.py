"""Lots: rising lists of places; those that hold out stay lost in all rounds."""

from fewchecks.nets import seats


def holds_out(net, lot):
    return stands(seats(net), lot)


def stands(seated, lot):
    counts = {}
    for place in lot:
        for c in seated[place]:
            counts[c] = counts.get(c, 0) + 1
    return 1 not in list(counts.values())


# A place that some check has alone is in no lot within that holds out, so it goes;
# that may leave another check alone with a place. Each check is looked at anew only
# where its count falls to 1, so that long chains take no more time than short ones.
def greatest(net, lot):
    seated = seats(net)
    inside = dict([(place, True) for place in lot])
    counts = [len(inside_of(pairs, inside)) for pairs in net[2]]
    waiting = [c for c, many in enumerate(counts) if many == 1]
    while waiting:
        alone = inside_of(net[2][waiting.pop()], inside)
        if alone:
            inside.pop(alone[0])
            for c in seated[alone[0]]:
                counts[c] -= 1
                if counts[c] == 1:
                    waiting.append(c)
    return [place for place in lot if place in inside]


def inside_of(pairs, inside):
    return [place for place, factor in pairs if place in inside]


def is_bare(net, lot):
    if lot == [] or not holds_out(net, lot):
        return False
    for place in lot:
        if greatest(net, without(lot, place)) != []:
            return False
    return True


def without(lot, place):
    return [other for other in lot if other != place]


def bared(net, lot):
    left = list(lot)
    for place in lot:
        if place in left:
            within = greatest(net, without(left, place))
            if within != []:
                left = within
    return left


def lots_of(net, size):
    seated = seats(net)
    return [row for row in rows_of(net[1], size) if stands(seated, row)]


# Rows in their order stay in their order when each is made longer, place by place.
def rows_of(n, size):
    rows = [[]]
    for turn in range(size):
        longer = []
        for row in rows:
            first = row[-1] + 1 if row else 0
            longer.extend([row + [place] for place in range(first, n)])
        rows = longer
    return rows


def least(net, most):
    seated = seats(net)
    for size in range(1, most + 1):
        for row in rows_of(net[1], size):
            if stands(seated, row):
                return row
    return None
