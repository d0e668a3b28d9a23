"""Rounds: a check with just one lost letter tells it, round by round."""

from fewchecks.field import over, total
from fewchecks.nets import ask_letter, ask_place, lost_of


def told_by(net, word, c):
    return told_for(net[0], net[2][c], 0, word)


# The letter that makes the sum of the pairs the rest; a net's checks have the rest 0.
def told_for(p, pairs, rest, word):
    lost = [(place, factor) for place, factor in pairs if word[place] is None]
    if len(lost) != 1:
        return None
    place = lost[0][0]
    factor = lost[0][1]
    return (place, over(p, rest - total(p, pairs, word), factor))


# The checks are asked in rising order, so the first that tells a place is the least.
def round_of(net, word):
    found = {}
    for c in range(len(net[2])):
        told = told_by(net, word, c)
        if told is not None and told[0] not in found:
            found[told[0]] = (told[0], c, told[1])
    return [found[place] for place in sorted(found)]


# Pairs are tuples of numbers, so a copy down to the checks' lists is a whole one.
def copied(net):
    return (net[0], net[1], [list(pairs) for pairs in net[2]])


class Mender:
    def __init__(self, net, word):
        self.net = copied(net)
        self.letters = list(word)

    def step(self):
        found = round_of(self.net, self.letters)
        for place, c, letter in found:
            self.letters[place] = letter
        return found

    def mend(self):
        rounds = []
        found = self.step()
        while found != []:
            rounds.append(found)
            found = self.step()
        return rounds

    def lose(self, place):
        ask_place(self.net[1], place)
        self.letters[place] = None

    def put(self, place, letter):
        ask_place(self.net[1], place)
        ask_letter(self.net[0], letter)
        self.letters[place] = letter

    def word(self):
        return list(self.letters)

    def lost(self):
        return lost_of(self.letters)


def mended(net, word):
    mender = Mender(net, word)
    rounds = mender.mend()
    return (mender.word(), rounds)
