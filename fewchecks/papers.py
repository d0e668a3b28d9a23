"""Papers: mends told one by one, with what is left, written, read and judged."""

from fewchecks.errors import NoText
from fewchecks.nets import lost_of
from fewchecks.rounds import mended, told_by
from fewchecks.texts import numbers_of, row_of


def paper_of(net, word):
    found = mended(net, word)
    return paper_from(found[0], found[1])


def paper_from(word, rounds):
    mends = []
    for found in rounds:
        mends.extend(found)
    return (mends, lost_of(word))


def paper_fault(net, word, paper):
    letters = list(word)
    for k, mend in enumerate(paper[0]):
        fault = mend_fault(net, letters, mend)
        if fault is not None:
            return (fault, k)
        letters[mend[0]] = mend[2]
    if paper[1] != lost_of(letters):
        return ("left", 0)
    for c in range(len(net[2])):
        if told_by(net, letters, c) is not None:
            return ("out", c)
    return None


def mend_fault(net, letters, mend):
    if mend[1] < 0 or mend[1] >= len(net[2]):
        return "check"
    told = told_by(net, letters, mend[1])
    if told is None or told[0] != mend[0]:
        return "place"
    if told[1] != mend[2]:
        return "letter"
    return None


def paper_text(paper):
    rows = [numbers_row("mend", mend) for mend in paper[0]]
    return "\n".join(rows + [numbers_row("left", paper[1])])


def numbers_row(first, numbers):
    return row_of(first, [str(number) for number in numbers])


def read_paper(text):
    rows = text.split("\n")
    mends = [read_mend(row) for row in rows[:-1]]
    return (mends, numbers_of(rows[-1], "left"))


def read_mend(row):
    numbers = numbers_of(row, "mend")
    if len(numbers) != 3:
        raise NoText("a mend has three numbers")
    return (numbers[0], numbers[1], numbers[2])
