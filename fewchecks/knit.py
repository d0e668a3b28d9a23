"""Nets and words made: knit nets, which are nowhere crossed, and staired nets."""

from fewchecks.errors import NoNet
from fewchecks.field import total


# For each check a dict of those that share a place with it, itself among them.
def knit(p, n, many, each):
    checks = [[] for c in range(many)]
    met = [{c: True} for c in range(many)]
    for place in range(n):
        taken = taken_for(place, checks, met, each)
        for j, c in enumerate(taken):
            checks[c].append((place, 1 + (place * each + j) % (p - 1)))
            met[c].update([(other, True) for other in taken])
    return (p, n, [pairs for pairs in checks if pairs != []])


def taken_for(place, checks, met, each):
    taken = []
    barred = {}
    while len(taken) < each:
        c = emptiest(checks, barred)
        if c is None:
            raise NoNet(place)
        taken.append(c)
        barred.update(met[c])
    return taken


# The checks are asked in rising order, so of several with the fewest the least is told.
def emptiest(checks, barred):
    best = None
    for c, pairs in enumerate(checks):
        if c not in barred and (best is None or len(pairs) < len(checks[best])):
            best = c
    return best


def staired(p, k, rows):
    return (p, k + len(rows), [stair(p, k, c, row) for c, row in enumerate(rows)])


def stair(p, k, c, row):
    ahead = [k + c - 1] if c > 0 else []
    return [(place, 1) for place in row + ahead] + [(k + c, p - 1)]


# The factor p - 1 stands for -1: the letter at the end of a stair is what those ahead of
# it come to, which are all laid by then.
def laid(p, k, rows, letters):
    word = list(letters)
    for pairs in staired(p, k, rows)[2]:
        word.append(total(p, pairs[:-1], word))
    return word
