import random
import unittest

from tests.drawn import FORTY, SIXTY, asked, drawn_net, drawn_word

from fewchecks.errors import NetError, NoText
from fewchecks.texts import net_text, read_net, read_whole, read_word, word_text

NET = (7, 4, [[(0, 1), (2, 6)], [], [(3, 5)]])
NET_TEXT = "net 7 4\ncheck 0:1 2:6\ncheck\ncheck 3:5"
WORD = [5, None, 0, None, 12]
WORD_TEXT = "word 5 - 0 - 12"
NOT_WRITTEN = ("", "-", "+1", "+0", "01", "00", "-0", "-00", "-01", "--1", "1-", "1.0", "1e3", "0x1", "1_0", "a", "1a",
               "1,2", "(1)", "None", "'1'", "~", "!", "1/2", "*", "#")
# No number of sixty figures at most is written so.
NO_NUMBERS = NOT_WRITTEN + ("1" * 61, "-" + "1" * 61, "1" * 400)


# Each text that comes of one by a sign taken away, doubled, or another one put in or in its place.
def spoiled(text, signs):
    found = set()
    for k in range(len(text) + 1):
        for sign in signs:
            found.add(text[:k] + sign + text[k:])
            found.add(text[:k] + sign + text[k + 1:])
        found.add(text[:k] + text[k + 1:])
    found.discard(text)
    return sorted(found)


def any_net(drawn):
    def number():
        return drawn.choice((0, 1, -1, 7, -10, 10, drawn.randint(-SIXTY, SIXTY), SIXTY, -SIXTY))
    checks = [[(number(), number()) for pair in range(drawn.randint(0, 4))] for check in range(drawn.randint(0, 4))]
    return (number(), number(), checks)


class TextTest(unittest.TestCase):
    def assert_no_text(self, read, text):
        with self.assertRaises(NoText, msg=repr(text)) as caught:
            read(text)
        self.assertIs(type(caught.exception), NoText)
        self.assertIsInstance(caught.exception, NetError)


class WrittenTest(TextTest):
    def test_nets(self):
        self.assertEqual(net_text(NET), NET_TEXT)
        self.assertEqual(net_text((2, 1, [])), "net 2 1")
        self.assertEqual(net_text((2, 1, [[]])), "net 2 1\ncheck")
        self.assertEqual(net_text((2, 1, [[], []])), "net 2 1\ncheck\ncheck")
        self.assertEqual(net_text((-5, 0, [[(-1, -20), (-1, 0)]])), "net -5 0\ncheck -1:-20 -1:0")
        self.assertEqual(net_text((SIXTY, -SIXTY, [[(SIXTY, 1)]])),
                         "net " + "9" * 60 + " -" + "9" * 60 + "\ncheck " + "9" * 60 + ":1")

    def test_words(self):
        self.assertEqual(word_text(WORD), WORD_TEXT)
        self.assertEqual(word_text([]), "word")
        self.assertEqual(word_text([None]), "word -")
        self.assertEqual(word_text([None, None, None]), "word - - -")
        self.assertEqual(word_text([0]), "word 0")
        self.assertEqual(word_text([-1, None, -SIXTY, SIXTY]), "word -1 - -" + "9" * 60 + " " + "9" * 60)

    def test_what_is_handed_in_stays(self):
        for told in (asked(self, net_text, NET), asked(self, word_text, WORD)):
            self.assertIs(type(told), str)


class ReadNetTest(TextTest):
    def test_read(self):
        self.assertEqual(asked(self, read_net, NET_TEXT), NET)
        self.assertEqual(read_net("net 2 1"), (2, 1, []))
        self.assertEqual(read_net("net 2 1\ncheck"), (2, 1, [[]]))
        self.assertEqual(read_net("net -5 0\ncheck -1:-20 -1:0\ncheck"), (-5, 0, [[(-1, -20), (-1, 0)], []]))
        self.assertEqual(read_net("net " + "9" * 60 + " -" + "9" * 60), (SIXTY, -SIXTY, []))

    def test_written_and_read_back(self):
        drawn = random.Random(101)
        for turn in range(200):
            net = any_net(drawn)
            self.assertEqual(asked(self, read_net, net_text(net)), net)
        for p in (2, 7, FORTY):
            net = drawn_net(drawn, p, 400, 400, 9)
            self.assertEqual(asked(self, read_net, net_text(net)), net)

    def test_read_texts_are_those_that_are_written(self):
        read = 0
        for text in spoiled("net 10 2\ncheck 0:1 1:20\ncheck", " \n:-+0a2"):
            try:
                net = read_net(text)
            except NoText:
                continue
            self.assertEqual(net_text(net), text)
            read += 1
        self.assertTrue(read > 10)

    def test_numbers_that_are_none(self):
        for number in NO_NUMBERS:
            for text in ("net {} 4", "net 7 {}", "net 7 4\ncheck {}:1", "net 7 4\ncheck 0:{}",
                         "net 7 4\ncheck 0:1 {}:1", "net 7 4\ncheck 0:1 1:{}\ncheck"):
                self.assert_no_text(read_net, text.replace("{}", number))

    def test_small_spoilings(self):
        for text in ("", " ", "\n", "net", "net ", "net 7", "net 7 ", "net 7 4 ", " net 7 4", "net  7 4", "net 7  4",
                     "net 7 4 1", "net 7 4\n", "\nnet 7 4", "net 7\n4", "net\n7 4", "net 7 4\n\ncheck", "Net 7 4",
                     "nets 7 4", "net7 4", "net 7 4 check", "net 7 4\ncheck ", "net 7 4\n check", "net 7 4\ncheck\n",
                     "net 7 4\ncheck  0:1", "net 7 4\ncheck 0:1 ", "net 7 4\ncheck 0:1  1:1", "net 7 4\ncheck 0 :1",
                     "net 7 4\ncheck 0: 1", "net 7 4\ncheck 0", "net 7 4\ncheck 01", "net 7 4\ncheck 0:1:1",
                     "net 7 4\ncheck :1", "net 7 4\ncheck 0:", "net 7 4\ncheck :", "net 7 4\ncheck 0::1",
                     "net 7 4\ncheck -", "net 7 4\ncheck 0:-", "net 7 4\ncheck -:1", "net 7 4\nchecks 0:1",
                     "net 7 4\nCheck 0:1", "net 7 4\nword 1", "net 7 4\nnet 7 4", "check 0:1\nnet 7 4",
                     "check\nnet 7 4", "check", "word 1 2", "net 7 4\ncheck0:1", "net 7:4", "net 7 4\n0:1",
                     "net 7 4\ncheck 0:1\n\n", "net 7 4 \ncheck 0:1", "net - 4", "net 7 -", "net 7 4\ncheck 0:1,1:1"):
            self.assert_no_text(read_net, text)

    def test_a_great_text(self):
        text = "net 7 4" + "\ncheck" * 16000
        self.assertEqual(read_net(text), (7, 4, [[]] * 16000))
        self.assert_no_text(read_net, text + "\n")


class ReadWordTest(TextTest):
    def test_read(self):
        self.assertEqual(asked(self, read_word, WORD_TEXT), WORD)
        self.assertEqual(read_word("word"), [])
        self.assertEqual(read_word("word -"), [None])
        self.assertEqual(read_word("word - - -1 0"), [None, None, -1, 0])
        self.assertEqual(read_word("word " + "9" * 60 + " -" + "9" * 60), [SIXTY, -SIXTY])

    def test_written_and_read_back(self):
        drawn = random.Random(102)
        for p in (2, 7, FORTY, SIXTY):
            for n in (0, 1, 2, 9, 400):
                for share in (0, 0.4, 1):
                    word = drawn_word(drawn, p, n, share)
                    self.assertEqual(asked(self, read_word, word_text(word)), word)
        self.assertEqual(read_word(word_text([-1, None, -SIXTY])), [-1, None, -SIXTY])

    def test_read_texts_are_those_that_are_written(self):
        read = 0
        for text in spoiled("word 0 - 10 -2", " \n:-+0a2"):
            try:
                word = read_word(text)
            except NoText:
                continue
            self.assertEqual(word_text(word), text)
            read += 1
        self.assertTrue(read > 10)

    def test_numbers_that_are_none(self):
        for number in NO_NUMBERS:
            if number != "-":
                for text in ("word {}", "word {} 1", "word 1 {}", "word - {} -"):
                    self.assert_no_text(read_word, text.replace("{}", number))

    def test_small_spoilings(self):
        for text in ("", " ", "\n", "word ", " word", "word  1", "word 1 ", "word 1  2", "word\n", "word 1\n",
                     "\nword 1", "word\n1", "word 1\n2", "word 1\nword 2", "Word 1", "words 1", "word1", "net 7 4",
                     "wor 1", "1 2", "word --", "word - -0", "word 1:2", "word 1 -2-", "- 1", "word -\n", "word 1,2",
                     "word None"):
            self.assert_no_text(read_word, text)


class ReadWholeTest(TextTest):
    def test_read(self):
        for text, number in (("0", 0), ("1", 1), ("-1", -1), ("10", 10), ("-10", -10), ("100", 100), ("9876543210",
                             9876543210), ("-305", -305)):
            told = read_whole(text, 60)
            self.assertEqual(told, number)
            self.assertIs(type(told), int)

    def test_one_to_most_figures(self):
        for most in range(1, 301):
            for figure in "159":
                self.assertEqual(read_whole(figure * most, most), int(figure * most))
                self.assertEqual(read_whole("-" + figure * most, most), -int(figure * most))
                self.assert_no_text(lambda text: read_whole(text, most), figure * (most + 1))
                self.assert_no_text(lambda text: read_whole(text, most), "-" + figure * (most + 1))
            self.assertEqual(read_whole("7", most), 7)
            self.assertEqual(read_whole("-7", most), -7)
            self.assertEqual(read_whole("0", most), 0)
            self.assert_no_text(lambda text: read_whole(text, most), "1" * 400)

    def test_most_one(self):
        for text in ("10", "-10", "00", "-0", "99"):
            self.assert_no_text(lambda text: read_whole(text, 1), text)

    def test_what_is_none(self):
        for text in NOT_WRITTEN + (" 1", "1 ", "- 1", "1\n", "\n1", "1 2", "1:2", " ", "\n", "-\n1", "0 ", "-1 "):
            for most in (1, 2, 60, 300):
                self.assert_no_text(lambda text: read_whole(text, most), text)

    def test_all_short_texts(self):
        signs = "-+019 "
        for first in signs:
            for second in signs:
                for third in list(signs) + [""]:
                    text = first + second + third
                    try:
                        number = int(text)
                        wanted = number if str(number) == text else None
                    except ValueError:
                        wanted = None
                    if wanted is None:
                        self.assert_no_text(lambda text: read_whole(text, 3), text)
                    else:
                        self.assertEqual(read_whole(text, 3), wanted)


if __name__ == "__main__":
    unittest.main()
