"""Votes: wrong letters of whole words are voted down by the checks that have them."""

from fewchecks.field import inverse
from fewchecks.nets import sums


# For each of the places the checks that have it, each with 1 over its factor there: these
# stay the same from round to round, and quotients are dear.
def voices(net, places):
    found = dict([(place, []) for place in places])
    for c, pairs in enumerate(net[2]):
        for place, factor in pairs:
            if place in found:
                found[place].append((c, inverse(net[0], factor)))
    return found


def all_voices(net):
    return voices(net, list(range(net[1])))


# A check's sum falls by its factor when the letter falls by 1, so it falls to 0 when the
# letter falls by the sum over the factor.
def counts_of(p, there, reached, letter):
    counts = {}
    for c, inverted in there:
        voted_for = (letter - reached[c] * inverted) % p
        counts[voted_for] = counts.get(voted_for, 0) + 1
    return counts


def votes(net, word, place):
    there = voices(net, [place])[place]
    counts = counts_of(net[0], there, sums(net, word), word[place])
    return [(letter, counts[letter]) for letter in sorted(counts)]


# Of unlike letters at most one has more than half of the votes.
def turns_of(p, found, reached, word):
    turns = []
    for place, old in enumerate(word):
        counts = counts_of(p, found[place], reached, old)
        for new in counts:
            if new != old and 2 * counts[new] > len(found[place]):
                turns.append((place, old, new))
    return turns


def turned(net, word):
    turns = turns_of(net[0], all_voices(net), sums(net, word), word)
    return (with_turns(word, turns), turns)


def with_turns(word, turns):
    told = list(word)
    for place, old, new in turns:
        told[place] = new
    return told


def voted(net, word, most):
    found = all_voices(net)
    told = list(word)
    rounds = []
    while True:
        reached = sums(net, told)
        if broken_of(reached) == 0:
            return (told, rounds, ("held",))
        if len(rounds) >= most:
            return (told, rounds, ("far",))
        turns = turns_of(net[0], found, reached, told)
        if turns == []:
            return (told, rounds, ("stuck",))
        told = with_turns(told, turns)
        rounds.append(turns)


def broken_of(reached):
    return len([number for number in reached if number != 0])


# Behind a change of one letter just those checks of its place hold that vote for the new
# one; ahead of it just those hold there that vote for the old one. The old letter itself
# leaves as many broken as before, so it is never taken.
def calming(net, found, word):
    reached = sums(net, word)
    before = broken_of(reached)
    fewest = before
    best = None
    for place, old in enumerate(word):
        counts = counts_of(net[0], found[place], reached, old)
        for letter in sorted(counts):
            behind = before + counts.get(old, 0) - counts[letter]
            if behind < fewest:
                fewest = behind
                best = (place, letter, behind)
    return best


def calmed(net, word):
    found = all_voices(net)
    told = list(word)
    steps = []
    step = calming(net, found, told)
    while step is not None:
        told[step[0]] = step[1]
        steps.append(step)
        step = calming(net, found, told)
    return (told, steps)
