"""Texts: nets, words and numbers written and read, one way of writing for each."""

from fewchecks.errors import NoText

MOST_FIGURES = 60
FIGURES = "0123456789"


def net_text(net):
    rows = [row_of("check", [pair_text(pair) for pair in pairs]) for pairs in net[2]]
    return "\n".join([row_of("net", [str(net[0]), str(net[1])])] + rows)


def pair_text(pair):
    return str(pair[0]) + ":" + str(pair[1])


def row_of(first, others):
    return " ".join([first] + others)


def word_text(word):
    return word_row(word)


# Under a name of its own, for an answer takes a word's text under the name of the other.
def word_row(word):
    return row_of("word", ["-" if letter is None else str(letter) for letter in word])


def read_net(text):
    rows = text.split("\n")
    head = numbers_of(rows[0], "net")
    if len(head) != 2:
        raise NoText("a net begins with two numbers")
    return (head[0], head[1], [read_check(row) for row in rows[1:]])


def read_check(row):
    return [read_pair(part) for part in parts_of(row, "check")]


def read_pair(part):
    numbers = [read_number(side) for side in part.split(":")]
    if len(numbers) != 2:
        raise NoText("a pair has two numbers")
    return (numbers[0], numbers[1])


def read_word(text):
    return [None if part == "-" else read_number(part) for part in parts_of(text, "word")]


def numbers_of(row, first):
    return [read_number(part) for part in parts_of(row, first)]


# What stands between two blanks, or a blank and an end, is empty where there is a blank too
# many; nothing that is read may be empty, so it is refused there.
def parts_of(row, first):
    parts = row.split(" ")
    if parts[0] != first:
        raise NoText("a row begins with another word")
    return parts[1:]


def read_number(text):
    return read_whole(text, MOST_FIGURES)


def read_whole(text, most):
    figures = text[1:] if text.startswith("-") else text
    if len(figures) < 1 or len(figures) > most or not all([sign in FIGURES for sign in figures]):
        raise NoText("this is no number, or one of too many figures")
    if figures.startswith("0") and text != "0":
        raise NoText("a number has no 0 ahead, and nought no sign")
    return int(text)
