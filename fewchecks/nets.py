"""Nets: tuples (p, n, checks), each check a list of pairs (place, factor)."""

from fewchecks.errors import NoLetter, NoPlace
from fewchecks.field import total

MOST_PLACES = 400
MOST_CHECKS = 400


def formed(net):
    p = net[0]
    n = net[1]
    checks = net[2]
    if p < 2 or n < 1 or n > MOST_PLACES or len(checks) > MOST_CHECKS:
        return False
    return all([is_check(p, n, pairs) for pairs in checks])


def is_check(p, n, pairs):
    last = -1
    for place, factor in pairs:
        if place <= last or place >= n or factor < 1 or factor >= p:
            return False
        last = place
    return len(pairs) > 0


# Asked by itself, for a list would take a place below 0 from its end.
def ask_place(n, place):
    if place < 0 or place >= n:
        raise NoPlace("there is no such place")


def is_letter(p, letter):
    return 0 <= letter and letter < p


def ask_letter(p, letter):
    if not is_letter(p, letter):
        raise NoLetter("this is no letter")


def sums(net, word):
    return [sum_of(net[0], pairs, word) for pairs in net[2]]


def sum_of(p, pairs, word):
    for place, factor in pairs:
        if word[place] is None:
            return None
    return total(p, pairs, word)


# A lost letter is asked for by itself: it may stand at a place that no check has.
def is_true(net, word):
    if None in word:
        return False
    return all([reached == 0 for reached in sums(net, word)])


def lost_of(word):
    return [place for place, letter in enumerate(word) if letter is None]


def seats(net):
    told = [[] for place in range(net[1])]
    for c, pairs in enumerate(net[2]):
        for place, factor in pairs:
            told[place].append(c)
    return told


def degrees(net):
    of_places = [len(numbers) for numbers in seats(net)]
    of_checks = [len(pairs) for pairs in net[2]]
    return (counted(of_places), counted(of_checks))


def counted(found):
    counts = {}
    for degree in found:
        counts[degree] = counts.get(degree, 0) + 1
    return [(degree, counts[degree]) for degree in sorted(counts)]


def crossed(net):
    checks = net[2]
    for c in range(len(checks)):
        own = dict([(place, True) for place, factor in checks[c]])
        for d in range(c + 1, len(checks)):
            shared = [place for place, factor in checks[d] if place in own]
            if len(shared) >= 2:
                return (c, d, shared[0], shared[1])
    return None
