"""Rounds: a check with just one lost letter tells it, round by round."""

from fewchecks.errors import NoLetter, NoPlace
from fewchecks.field import over, total


def told_by(net, word, c):
    p = net[0]
    pairs = net[2][c]
    lost = [(place, factor) for place, factor in pairs if word[place] is None]
    if len(lost) != 1:
        return None
    place = lost[0][0]
    factor = lost[0][1]
    return (place, over(p, -total(p, pairs, word), factor))


# The checks are asked in rising order, so the first that tells a place is the least.
def round_of(net, word):
    found = {}
    for c in range(len(net[2])):
        told = told_by(net, word, c)
        if told is not None and told[0] not in found:
            found[told[0]] = (told[0], c, told[1])
    return [found[place] for place in sorted(found)]


# Pairs are tuples of numbers, so a copy down to the checks' lists is a whole one.
def copied(net):
    return (net[0], net[1], [list(pairs) for pairs in net[2]])


class Mender:
    def __init__(self, net, word):
        self.net = copied(net)
        self.letters = list(word)

    def step(self):
        found = round_of(self.net, self.letters)
        for place, c, letter in found:
            self.letters[place] = letter
        return found

    def mend(self):
        rounds = []
        found = self.step()
        while found != []:
            rounds.append(found)
            found = self.step()
        return rounds

    def lose(self, place):
        self.ask_place(place)
        self.letters[place] = None

    def put(self, place, letter):
        self.ask_place(place)
        if letter < 0 or letter >= self.net[0]:
            raise NoLetter("this is no letter of the net")
        self.letters[place] = letter

    # Asked by itself, for a list would take a place below 0 from its end.
    def ask_place(self, place):
        if place < 0 or place >= self.net[1]:
            raise NoPlace("the net has no such place")

    def word(self):
        return list(self.letters)

    def lost(self):
        return [place for place, letter in enumerate(self.letters) if letter is None]


def mended(net, word):
    mender = Mender(net, word)
    rounds = mender.mend()
    return (mender.word(), rounds)
