"""Nets and words for the tests, drawn from a given seed: the same at each run."""

import itertools
import random

FORTY = 10 ** 40 - 17
SIXTY = 10 ** 60 - 1


def drawn_net(drawn, p, n, many, most):
    checks = []
    for c in range(many):
        places = sorted(drawn.sample(range(n), drawn.randint(1, min(n, most))))
        checks.append([(place, drawn.randint(1, p - 1)) for place in places])
    return (p, n, checks)


def drawn_word(drawn, p, n, share):
    return [None if drawn.random() < share else drawn.randrange(p) for place in range(n)]


def small_nets(seed, turns):
    drawn = random.Random(seed)
    for p, places in ((2, 7), (3, 5), (5, 4), (7, 3)):
        for turn in range(turns):
            yield drawn, drawn_net(drawn, p, drawn.randint(1, places), drawn.randint(0, 6), 4)


def all_words(p, n):
    return [list(word) for word in itertools.product(range(p), repeat=n)]


def holds(p, pairs, word):
    return sum(factor * word[place] for place, factor in pairs) % p == 0


def true_words(net):
    p, n, checks = net
    return [word for word in all_words(p, n) if all(holds(p, pairs, word) for pairs in checks)]


# The lines of some directions on a square of five by five places: nowhere crossed, and
# each place is in as many checks as there are directions.
def lines(p, directions):
    checks = []
    for slope in range(directions):
        for first in range(5):
            spots = [5 * x + (slope * x + first) % 5 if slope < 5 else 5 * first + x for x in range(5)]
            checks.append([(place, 1 + (place * 7 + slope) % (p - 1)) for place in sorted(spots)])
    return (p, 25, checks)
