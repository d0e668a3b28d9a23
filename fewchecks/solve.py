"""All checks together: what is told by checks that are added up."""

from fewchecks.field import inverse, total
from fewchecks.nets import lost_of


# A row is a sum of checks: its number at each place and, behind these, the factors
# by which the checks come to it, so that each answer can be shown by factors.
def rows_of(net):
    rows = []
    for c, pairs in enumerate(net[2]):
        row = [0] * (net[1] + len(net[2]))
        for place, factor in pairs:
            row[place] = factor
        row[net[1] + c] = 1
        rows.append(row)
    return rows


# Place by place, the first row not yet taken that has the place is taken for it: it
# gets 1 there and all others get 0. So a row that is not taken has 0 at all of these
# places, and one that is taken has 0 at all of them ahead of its own.
# Told are the rows and a dict: the place for which a row, by its number, is taken.
def swept(p, rows, places):
    taken = {}
    for place in places:
        k = first_with(rows, taken, place)
        if k is not None:
            taken[k] = place
            rows = cleared(p, rows, k, place)
    return (rows, taken)


def first_with(rows, taken, place):
    for k, row in enumerate(rows):
        if k not in taken and row[place] != 0:
            return k
    return None


def cleared(p, rows, k, place):
    own = times(p, inverse(p, rows[k][place]), rows[k])
    told = [less(p, row, row[place], own) for row in rows]
    told[k] = own
    return told


def times(p, factor, row):
    return [factor * number % p for number in row]


def less(p, row, factor, own):
    if factor == 0:
        return row
    return [(number - factor * other) % p for number, other in zip(row, own)]


# Over the known letters alone: total leaves the lost ones out.
def reached_by(net, row, word):
    return total(net[0], list(enumerate(row[:net[1]])), word)


# The asked place comes last, so a row that is taken for it has 0 at all other lost ones.
def settled(net, word, place):
    p = net[0]
    others = [other for other in lost_of(word) if other != place]
    found = swept(p, rows_of(net), others + [place])
    rows = found[0]
    taken = found[1]
    told = [0] * net[1]
    told[place] = 1
    for k in taken:
        if taken[k] == place:
            return ("told", -reached_by(net, rows[k], word) % p, rows[k][net[1]:])
        told[taken[k]] = -rows[k][place] % p
    return ("open", told)


def filled(net, word):
    p = net[0]
    found = swept(p, rows_of(net), lost_of(word))
    taken = found[1]
    told = [0 if letter is None else letter for letter in word]
    for k, row in enumerate(found[0]):
        reached = reached_by(net, row, word)
        if k in taken:
            told[taken[k]] = -reached % p
        elif reached != 0:
            return ("none", times(p, inverse(p, reached), row[net[1]:]))
    return ("word", told)


def swept_all(net):
    return swept(net[0], rows_of(net), list(range(net[1])))


# The last row is taken only where none ahead will do, so it is left over just where it
# comes of those ahead: it is 0 then, with the factor 1 for the check itself.
def comes_of(net, c):
    p = net[0]
    n = net[1]
    found = swept_all((p, n, net[2][:c + 1]))
    if c in found[1]:
        return None
    return [-factor % p for factor in found[0][c][n:n + c]]


def rank(net):
    return len(swept_all(net)[1])


# A rule tells the letter of a place that is not free by those of the free ones: a row
# that is taken has 1 at its place and 0 at all others for which a row is taken.
class Maker:
    def __init__(self, net):
        found = swept_all(net)
        told = dict([(place, found[0][k]) for k, place in found[1].items()])
        self.p = net[0]
        self.n = net[1]
        self.spots = [place for place in range(net[1]) if place not in told]
        self.rules = [(place, self.at_spots(told[place])) for place in sorted(told)]

    def at_spots(self, row):
        return [(spot, row[spot]) for spot in self.spots]

    def free(self):
        return list(self.spots)

    def made(self, letters):
        word = [0] * self.n
        for spot, letter in zip(self.spots, letters):
            word[spot] = letter
        for place, pairs in self.rules:
            word[place] = -total(self.p, pairs, word) % self.p
        return word
