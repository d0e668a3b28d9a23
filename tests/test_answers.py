import itertools
import random
import unittest

from tests.drawn import FORTY, SIXTY, drawn_net, drawn_word
from tests.test_papers import CHAIN

from fewchecks.answers import answer
from fewchecks.errors import NetError, NoText, NotFormed
from fewchecks.nets import is_true, sums
from fewchecks.papers import paper_of, paper_text, read_paper
from fewchecks.rounds import mended
from fewchecks.texts import net_text, read_word, word_text

CHAIN_TEXT = "net 7 4\ncheck 0:1 1:6\ncheck 1:1 2:6\ncheck 2:1 3:6"


def rows_of_answer(net, word):
    behind = mended(net, word)[0]
    end = "end left"
    if None not in behind:
        numbers = [str(c) for c, reached in enumerate(sums(net, behind)) if reached != 0]
        end = " ".join(["end broken"] + numbers) if numbers else "end true"
    return [word_text(behind), paper_text(paper_of(net, word)), end]


class ToldTest(unittest.TestCase):
    def test_end_true(self):
        self.assertEqual(net_text(CHAIN), CHAIN_TEXT)
        self.assertEqual(answer(CHAIN_TEXT, "word 3 - - -"),
                         "word 3 3 3 3\nmend 1 0 3\nmend 2 1 3\nmend 3 2 3\nleft\nend true")
        self.assertEqual(answer(CHAIN_TEXT, "word 3 3 3 3"), "word 3 3 3 3\nleft\nend true")
        self.assertEqual(answer("net 2 1", "word 1"), "word 1\nleft\nend true")

    def test_end_left(self):
        self.assertEqual(answer(CHAIN_TEXT, "word - - - -"), "word - - - -\nleft 0 1 2 3\nend left")
        self.assertEqual(answer("net 7 3\ncheck 0:1 1:6", "word 3 - -"), "word 3 3 -\nmend 1 0 3\nleft 2\nend left")
        self.assertEqual(answer("net 2 1", "word -"), "word -\nleft 0\nend left")

    def test_end_left_ahead_of_end_broken(self):
        self.assertEqual(answer("net 7 3\ncheck 0:1 1:6", "word 3 4 -"), "word 3 4 -\nleft 2\nend left")

    def test_end_broken(self):
        self.assertEqual(answer(CHAIN_TEXT, "word 3 3 4 4"), "word 3 3 4 4\nleft\nend broken 1")
        self.assertEqual(answer(CHAIN_TEXT, "word 3 2 1 0"), "word 3 2 1 0\nleft\nend broken 0 1 2")
        self.assertEqual(answer(CHAIN_TEXT, "word 3 - 4 5"), "word 3 3 4 5\nmend 1 0 3\nleft\nend broken 1 2")
        self.assertEqual(answer("net 3 1\ncheck 0:2", "word 1"), "word 1\nleft\nend broken 0")

    def test_numbers_of_checks_rise_as_numbers(self):
        text = "net 3 1" + "\ncheck 0:2" * 12
        self.assertEqual(answer(text, "word 1"), "word 1\nleft\nend broken 0 1 2 3 4 5 6 7 8 9 10 11")

    def test_drawn_nets(self):
        drawn = random.Random(121)
        ends = {"left": 0, "true": 0, "broken": 0}
        for p, turn in itertools.product((2, 3, 7, FORTY), range(60)):
            n = drawn.randint(1, 9)
            net = drawn_net(drawn, p, n, drawn.randint(0, 9), 4)
            word = drawn_word(drawn, p, n, drawn.choice((0, 0.3, 0.5, 0.8)))
            if turn % 4 == 0:
                word = [0 if letter is not None else None for letter in word]
            told = answer(net_text(net), word_text(word))
            self.assertIs(type(told), str)
            self.assertEqual(told, "\n".join(rows_of_answer(net, word)))
            ends[told.split("\nend ")[1].split(" ")[0]] += 1
            if told.endswith("end true"):
                self.assertTrue(is_true(net, read_word(told.split("\n")[0])))
            self.assertEqual(read_paper("\n".join(told.split("\n")[1:-1])), paper_of(net, word))
        self.assertTrue(min(ends.values()) > 20, ends)

    def test_a_great_net(self):
        last = FORTY - 1
        rows = ["check {}:1 {}:{}".format(place, place + 1, last) for place in range(399)]
        told = answer("\n".join(["net {} 400".format(FORTY)] + rows), "word {}".format(last) + " -" * 399)
        wanted = ["word" + " {}".format(last) * 400]
        wanted += ["mend {} {} {}".format(place + 1, place, last) for place in range(399)]
        self.assertEqual(told, "\n".join(wanted + ["left", "end true"]))


class RefusedTest(unittest.TestCase):
    def assert_refused(self, error, net, word):
        with self.assertRaises(error, msg=(net, word)) as caught:
            answer(net, word)
        self.assertIs(type(caught.exception), error)
        self.assertIsInstance(caught.exception, NetError)

    def test_no_text(self):
        for net in ("", "net 7 4\n", "net 7 4 ", "net 07 4", "word 3 3 3 3", "net 7 4\ncheck 0:1:1", "net 7 -"):
            for word in ("word 3 3 3 3", "word 3", "word", "", "word 9 9 9 9 9"):
                self.assert_refused(NoText, net, word)
        for word in ("", "word ", "word 3 3 3 3 ", "word 3 3 3 03", "word 3 3 3 3\n", CHAIN_TEXT, "word 3 3 3 --"):
            for net in (CHAIN_TEXT, "net 0 0", "net 7 4\ncheck", "net 1 4", "net 7 401"):
                self.assert_refused(NoText, net, word)

    def test_the_net_is_read_ahead_of_the_word(self):
        # Both are NoText, so which text was refused shows in what the error says.
        said = []
        for net, word in ((CHAIN_TEXT + ":", "words"), (CHAIN_TEXT + ":", "word 3 3 3 3"), (CHAIN_TEXT, "words")):
            with self.assertRaises(NoText) as caught:
                answer(net, word)
            said.append(str(caught.exception))
        self.assertEqual(said[0], said[1])
        self.assertNotEqual(said[0], said[2])

    def test_nets_that_are_not_formed(self):
        for net in ("net 1 4", "net 0 4", "net -7 4", "net 7 0", "net 7 -4", "net 7 401", "net 7 4\ncheck",
                    "net 7 4\ncheck 4:1", "net 7 4\ncheck -1:1", "net 7 4\ncheck 0:0", "net 7 4\ncheck 0:7",
                    "net 7 4\ncheck 0:-1", "net 7 4\ncheck 1:1 0:1", "net 7 4\ncheck 1:1 1:1",
                    "net 7 4\ncheck 0:1 1:1\ncheck", "net 7 {}".format(SIXTY), "net {} 4\ncheck".format(SIXTY),
                    "net 7 4" + "\ncheck 0:1" * 401):
            for word in ("word 3 3 3 3", "word", "word - - - -", "word " + "3 " * 400 + "3"):
                self.assert_refused(NotFormed, net, word)

    def test_words_that_are_none(self):
        for word in ("word", "word 3 3 3", "word 3 3 3 3 3", "word - - -", "word - - - - -", "word 3 3 3 -1",
                     "word 3 3 3 7", "word 7 3 3 3", "word -1 - - -", "word 3 3 3 {}".format(SIXTY),
                     "word 3 -{} 3 3".format(SIXTY), "word 3 8 3 3"):
            self.assert_refused(NotFormed, CHAIN_TEXT, word)
        for word in ("word 2", "word -1", "word", "word - -"):
            self.assert_refused(NotFormed, "net 2 1", word)

    def test_two_thousand_pairs(self):
        five = "\ncheck 0:1 1:1 2:1 3:1 4:1"
        word = "word 0 0 0 0 0 0"
        self.assertEqual(answer("net 2 6" + five * 400, word), word + "\nleft\nend true")
        self.assert_refused(NotFormed, "net 2 6" + five * 399 + "\ncheck 0:1 1:1 2:1 3:1 4:1 5:1", word)
        wide = "\ncheck " + " ".join("{}:1".format(place) for place in range(400))
        zeros = "word" + " 0" * 400
        self.assertEqual(answer("net 2 400" + wide * 5, zeros), zeros + "\nleft\nend true")
        self.assert_refused(NotFormed, "net 2 400" + wide * 5 + "\ncheck 0:1", zeros)


if __name__ == "__main__":
    unittest.main()
