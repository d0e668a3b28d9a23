import copy
import itertools
import random
import unittest

from tests.drawn import FORTY, SIXTY, asked, drawn_net, drawn_word, small_nets, true_words
from tests.test_texts import NO_NUMBERS, TextTest, spoiled

from fewchecks.errors import NoText
from fewchecks.papers import paper_fault, paper_of, paper_text, read_paper
from fewchecks.rounds import mended

PRIMES = (2, 3, 7, FORTY)
# A chain of equal letters; from place 0 it is told place by place.
CHAIN = (7, 4, [[(0, 1), (1, 6)], [(1, 1), (2, 6)], [(2, 1), (3, 6)]])
START = [3, None, None, None]
MENDS = [(1, 0, 3), (2, 1, 3), (3, 2, 3)]


# The faults in the words of the document, mend by mend.
def plain_fault(net, word, paper):
    p, n, checks = net
    word = list(word)
    for k, (place, check, letter) in enumerate(paper[0]):
        if check not in range(len(checks)):
            return ("check", k)
        lost = [at for at, factor in checks[check] if word[at] is None]
        if lost != [place]:
            return ("place", k)
        rest = sum(factor * word[at] for at, factor in checks[check] if at != place)
        if letter != -rest * pow(dict(checks[check])[place], -1, p) % p:
            return ("letter", k)
        word[place] = letter
    lost = [place for place in range(n) if word[place] is None]
    if paper[1] != lost:
        return ("left", 0)
    for c, pairs in enumerate(checks):
        if len([place for place, factor in pairs if place in lost]) == 1:
            return ("out", c)
    return None


def changed(drawn, paper):
    mends, left = copy.deepcopy(paper)
    number = drawn.choice((-1, 0, 1, 2, 3, 5, SIXTY, -SIXTY))
    choice = drawn.randrange(7)
    if choice == 0 and mends:
        k = drawn.randrange(len(mends))
        at = drawn.randrange(3)
        mends[k] = mends[k][:at] + (number,) + mends[k][at + 1:]
    elif choice == 1 and mends:
        mends.pop(drawn.randrange(len(mends)))
    elif choice == 2 and mends:
        mends.insert(drawn.randrange(len(mends) + 1), drawn.choice(mends))
    elif choice == 3:
        left.insert(drawn.randrange(len(left) + 1), number)
    elif choice == 4 and left:
        left.pop(drawn.randrange(len(left)))
    elif choice == 5:
        # The last mends are not told, and their places stand among those that are left.
        cut = drawn.randrange(len(mends) + 1)
        left = sorted(left + [mend[0] for mend in mends[cut:]])
        mends = mends[:cut]
    else:
        drawn.shuffle(mends)
    return (mends, left)


class PaperOfTest(unittest.TestCase):
    def test_round_behind_round(self):
        self.assertEqual(paper_of(CHAIN, START), (MENDS, []))
        self.assertEqual(paper_of(CHAIN, [3, None, None, 3]), ([(1, 0, 3), (2, 2, 3)], []))
        net = (7, 3, [[(1, 1), (2, 6)], [(0, 1), (2, 6)]])
        self.assertEqual(paper_of(net, [None, None, 5]), ([(0, 1, 5), (1, 0, 5)], []))
        self.assertEqual(paper_of(net, [5, None, None]), ([(2, 1, 5), (1, 0, 5)], []))

    def test_what_is_left(self):
        self.assertEqual(paper_of(CHAIN, [None] * 4), ([], [0, 1, 2, 3]))
        self.assertEqual(paper_of((7, 5, CHAIN[2][:2]), [3, None, None, None, None]), (MENDS[:2], [3, 4]))
        self.assertEqual(paper_of((7, 2, []), [1, None]), ([], [1]))

    def test_a_whole_word(self):
        self.assertEqual(paper_of(CHAIN, [3, 3, 3, 3]), ([], []))
        self.assertEqual(paper_of(CHAIN, [0, 1, 2, 3]), ([], []))

    def test_drawn_nets(self):
        drawn = random.Random(111)
        for p, turn in itertools.product(PRIMES, range(40)):
            n = drawn.randint(1, 14)
            net = drawn_net(drawn, p, n, drawn.randint(0, 14), 4)
            word = drawn_word(drawn, p, n, drawn.choice((0, 0.3, 0.6, 1)))
            told = asked(self, paper_of, net, word)
            behind, rounds = mended(net, word)
            self.assertIs(type(told), tuple)
            self.assertEqual(told[0], [mend for found in rounds for mend in found])
            self.assertEqual(told[1], [place for place in range(n) if behind[place] is None])
            self.assertIsNone(asked(self, paper_fault, net, word, told))


class PaperFaultTest(unittest.TestCase):
    def test_none(self):
        self.assertIsNone(paper_fault(CHAIN, START, (MENDS, [])))
        self.assertIsNone(paper_fault(CHAIN, [None] * 4, ([], [0, 1, 2, 3])))
        self.assertIsNone(paper_fault((7, 1, []), [None], ([], [0])))

    def test_check(self):
        for check in (-1, -3, 3, 4, SIXTY, -SIXTY):
            for place, letter in ((1, 3), (0, 3), (-1, -1), (SIXTY, -SIXTY)):
                self.assertEqual(paper_fault(CHAIN, START, ([(place, check, letter)], [])), ("check", 0))
                self.assertEqual(paper_fault(CHAIN, START, (MENDS[:2] + [(place, check, letter)], [9])), ("check", 2))

    def test_place(self):
        for place in (0, 2, 3, 4, -1, -3, SIXTY, -SIXTY):
            for letter in (3, 4, -1, SIXTY):
                self.assertEqual(paper_fault(CHAIN, START, ([(place, 0, letter)], [])), ("place", 0))
        self.assertEqual(paper_fault(CHAIN, START, ([(2, 1, 3)], [])), ("place", 0))
        self.assertEqual(paper_fault(CHAIN, START, ([(1, 1, 3)], [])), ("place", 0))
        self.assertEqual(paper_fault(CHAIN, START, (MENDS[:1] + MENDS[:1], [])), ("place", 1))
        self.assertEqual(paper_fault(CHAIN, [3] * 4, (MENDS, [])), ("place", 0))
        self.assertEqual(paper_fault(CHAIN, START, ([MENDS[0], MENDS[2], MENDS[1]], [])), ("place", 1))

    def test_letter(self):
        for letter in (0, 2, 4, 6, 7, 10, -4, -1, 3 + 7 * SIXTY, SIXTY):
            self.assertEqual(paper_fault(CHAIN, START, ([(1, 0, letter)], [])), ("letter", 0))
            self.assertEqual(paper_fault(CHAIN, START, (MENDS[:2] + [(3, 2, letter)], [])), ("letter", 2))

    def test_the_first_mend_with_a_fault(self):
        faults = {"check": (1, 9, 3), "place": (2, 0, 3), "letter": (1, 0, 4)}
        for first, second in itertools.product(faults, repeat=2):
            self.assertEqual(paper_fault(CHAIN, START, ([faults[first], faults[second]], [8])), (first, 0))
        self.assertEqual(paper_fault(CHAIN, START, ([(9, 9, 9)], [])), ("check", 0))
        self.assertEqual(paper_fault(CHAIN, START, ([(9, 0, 9)], [])), ("place", 0))

    def test_each_in_the_word_with_the_letters_of_those_ahead(self):
        net = (7, 3, [[(0, 1), (1, 6)], [(1, 1), (2, 6)], [(0, 1), (2, 6)]])
        self.assertIsNone(paper_fault(net, [4, None, None], ([(1, 0, 4), (2, 1, 4)], [])))
        self.assertIsNone(paper_fault(net, [4, None, None], ([(2, 2, 4), (1, 1, 4)], [])))
        self.assertEqual(paper_fault(net, [4, None, None], ([(2, 1, 4), (1, 0, 4)], [])), ("place", 0))

    def test_left(self):
        for left in ([1], [0], [4], [-1], [SIXTY, -SIXTY]):
            self.assertEqual(paper_fault(CHAIN, START, (MENDS, left)), ("left", 0))
        for left in ([], [0, 1, 2], [1, 2, 3], [0, 1, 3, 2], [3, 2, 1, 0], [0, 0, 1, 2, 3], [0, 1, 2, 3, 3],
                     [0, 1, 2, 4], [-1, 0, 1, 2, 3], [0, 1, 2, 3, SIXTY]):
            self.assertEqual(paper_fault(CHAIN, [None] * 4, ([], left)), ("left", 0))
        self.assertEqual(paper_fault(CHAIN, START, (MENDS[:2], [])), ("left", 0))

    def test_out(self):
        self.assertEqual(paper_fault(CHAIN, START, ([], [1, 2, 3])), ("out", 0))
        self.assertEqual(paper_fault(CHAIN, START, (MENDS[:1], [2, 3])), ("out", 1))
        self.assertEqual(paper_fault(CHAIN, START, (MENDS[:2], [3])), ("out", 2))
        self.assertEqual(paper_fault(CHAIN, [None, 3, None, None], ([], [0, 2, 3])), ("out", 0))
        self.assertEqual(paper_fault(CHAIN, [3, 3, None, 3], ([], [2])), ("out", 1))

    def test_mends_in_whatever_order_that_can_be_gone(self):
        found = 0
        for drawn, net in small_nets(112, 150):
            words = true_words(net)
            word = [None if drawn.random() < 0.5 else letter for letter in drawn.choice(words)]
            mends, left = paper_of(net, word)
            for order in itertools.islice(itertools.permutations(mends), 30):
                told = asked(self, paper_fault, net, word, (list(order), left))
                self.assertEqual(told, plain_fault(net, word, (list(order), left)))
                found += told is None and list(order) != mends
        self.assertTrue(found > 50, found)

    def test_spoiled_papers(self):
        drawn = random.Random(113)
        found = {"check": 0, "place": 0, "letter": 0, "left": 0, "out": 0, None: 0}
        for p, turn in itertools.product(PRIMES, range(250)):
            n = drawn.randint(1, 8)
            net = drawn_net(drawn, p, n, drawn.randint(1, 8), 3)
            word = drawn_word(drawn, p, n, 0.6)
            paper = paper_of(net, word)
            for change in range(drawn.randint(1, 2)):
                paper = changed(drawn, paper)
            told = asked(self, paper_fault, net, word, paper)
            self.assertEqual(told, plain_fault(net, word, paper))
            found[told and told[0]] += 1
        self.assertTrue(min(found.values()) > 20, found)

    def test_four_hundred_mends(self):
        net = (FORTY, 400, [[(place, 1), (place + 1, FORTY - 1)] for place in range(399)])
        word = [FORTY - 1] + [None] * 399
        mends, left = paper_of(net, word)
        self.assertEqual((mends, left), ([(k + 1, k, FORTY - 1) for k in range(399)], []))
        self.assertIsNone(paper_fault(net, word, (mends, left)))
        self.assertEqual(paper_fault(net, word, (mends[:-1] + [(399, 398, 0)], [])), ("letter", 398))


class PaperTextTest(TextTest):
    def test_written(self):
        self.assertEqual(paper_text((MENDS, [])), "mend 1 0 3\nmend 2 1 3\nmend 3 2 3\nleft")
        self.assertEqual(paper_text(([], [])), "left")
        self.assertEqual(paper_text(([], [3, 1])), "left 3 1")
        self.assertEqual(paper_text(([(-1, SIXTY, -SIXTY)], [-2])),
                         "mend -1 " + "9" * 60 + " -" + "9" * 60 + "\nleft -2")

    def test_read(self):
        self.assertEqual(read_paper("mend 1 0 3\nmend 2 1 3\nmend 3 2 3\nleft"), (MENDS, []))
        self.assertEqual(read_paper("left"), ([], []))
        self.assertEqual(read_paper("left 3 -1 0"), ([], [3, -1, 0]))

    def test_written_and_read_back(self):
        drawn = random.Random(114)
        for turn in range(200):
            numbers = [drawn.choice((0, 1, -1, 10, SIXTY, -SIXTY, drawn.randint(-SIXTY, SIXTY))) for k in range(40)]
            mends = [tuple(drawn.sample(numbers, 3)) for mend in range(drawn.randint(0, 5))]
            paper = (mends, drawn.sample(numbers, drawn.randint(0, 5)))
            text = asked(self, paper_text, paper)
            self.assertIs(type(text), str)
            self.assertEqual(asked(self, read_paper, text), paper)

    def test_read_texts_are_those_that_are_written(self):
        for whole in ("mend 1 0 -3\nmend 10 1 0\nleft 0 -10", "left", "mend 0 0 0\nleft"):
            for text in spoiled(whole, " \n:-+0a2"):
                try:
                    paper = read_paper(text)
                except NoText:
                    continue
                self.assertEqual(paper_text(paper), text)

    def test_small_spoilings(self):
        for number in NO_NUMBERS:
            for text in ("mend {} 0 3\nleft", "mend 1 {} 3\nleft", "mend 1 0 {}\nleft", "left {}", "left 1 {}",
                         "mend 1 0 3\nleft {} 2"):
                self.assert_no_text(read_paper, text.replace("{}", number))
        for text in ("", " ", "\n", "left ", " left", "left\n", "\nleft", "left  1", "left 1 ", "left\nleft", "Left",
                     "lefts", "left1", "mend 1 0 3", "mend 1 0 3\n", "left\nmend 1 0 3", "mend 1 0 3\n\nleft",
                     "mend 1 0\nleft", "mend 1 0 3 4\nleft", "mend\nleft", "mend 1 0 3 \nleft", " mend 1 0 3\nleft",
                     "mend  1 0 3\nleft", "mend 1 0  3\nleft", "mend 1 0 -\nleft", "mend 1:0 3\nleft", "left -",
                     "mends 1 0 3\nleft", "mend 1 0 3\nleft 1\n", "mend 1 0 3 left", "mend 1 0 3\nmend 1 0 3",
                     "left 1\n2", "mend 1 0 3\nleft\nend true", "word 1\nleft", "mend 1 0 3\nleft 1:2"):
            self.assert_no_text(read_paper, text)


if __name__ == "__main__":
    unittest.main()
