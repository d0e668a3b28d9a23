"""Nets and words for the tests, drawn from a given seed: the same at each run."""

import copy
import itertools
import random

FORTY = 10 ** 40 - 17
SIXTY = 10 ** 60 - 1


def drawn_net(drawn, p, n, many, most):
    checks = []
    for c in range(many):
        places = sorted(drawn.sample(range(n), drawn.randint(1, min(n, most))))
        checks.append([(place, drawn.randint(1, p - 1)) for place in places])
    return (p, n, checks)


def drawn_word(drawn, p, n, share):
    return [None if drawn.random() < share else drawn.randrange(p) for place in range(n)]


def small_nets(seed, turns):
    drawn = random.Random(seed)
    for p, places in ((2, 7), (3, 5), (5, 4), (7, 3)):
        for turn in range(turns):
            yield drawn, drawn_net(drawn, p, drawn.randint(1, places), drawn.randint(0, 6), 4)


def all_words(p, n):
    return [list(word) for word in itertools.product(range(p), repeat=n)]


def holds(p, pairs, word):
    return sum(factor * word[place] for place, factor in pairs) % p == 0


def true_words(net):
    p, n, checks = net
    return [word for word in all_words(p, n) if all(holds(p, pairs, word) for pairs in checks)]


# The lines of some directions on a square of five by five places: nowhere crossed, and
# each place is in as many checks as there are directions.
def lines(p, directions):
    checks = []
    for slope in range(directions):
        for first in range(5):
            spots = [5 * x + (slope * x + first) % 5 if slope < 5 else 5 * first + x for x in range(5)]
            checks.append([(place, 1 + (place * 7 + slope) % (p - 1)) for place in sorted(spots)])
    return (p, 25, checks)


def lists_in(thing):
    inner = [found for sub in thing for found in lists_in(sub)] if isinstance(thing, (list, tuple)) else []
    return inner + [thing] if isinstance(thing, list) else inner


def parts_of(thing):
    return [part for sub in thing for part in parts_of(sub)] if isinstance(thing, (list, tuple)) else [thing]


# What a name of the interface tells, asked at the same time whether it keeps to what holds
# for all of them: what is handed in stays, and lists that are told are the asker's own.
def asked(test, ask, *handed):
    before = copy.deepcopy(handed)
    told = ask(*handed)
    test.assertEqual(handed, before)
    lists = [id(found) for found in lists_in(told)]
    test.assertEqual(len(set(lists)), len(lists))
    test.assertFalse(set(lists) & {id(found) for found in lists_in(handed)})
    test.assertTrue(all(type(part) in (int, str, type(None)) for part in parts_of(told)), told)
    return told
