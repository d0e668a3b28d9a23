"""Answers: a net's text and a word's text in, the mended word and its paper out."""

from fewchecks.errors import NotFormed
from fewchecks.nets import formed, is_letter, sums
from fewchecks.papers import numbers_row, paper_from, paper_text
from fewchecks.rounds import mended
from fewchecks.texts import read_net, read_word, word_row

MOST_PAIRS = 2000


def answer(net_text, word_text):
    net = read_net(net_text)
    word = read_word(word_text)
    if not is_fit(net, word):
        raise NotFormed("this is no net, or no word of it")
    found = mended(net, word)
    paper = paper_from(found[0], found[1])
    return "\n".join([word_row(found[0]), paper_text(paper), end_row(net, found[0])])


def is_fit(net, word):
    if not formed(net) or sum([len(pairs) for pairs in net[2]]) > MOST_PAIRS:
        return False
    return len(word) == net[1] and all([is_letter(net[0], letter) for letter in word if letter is not None])


def end_row(net, word):
    if None in word:
        return "end left"
    broken = [c for c, reached in enumerate(sums(net, word)) if reached != 0]
    if broken == []:
        return "end true"
    return numbers_row("end broken", broken)
