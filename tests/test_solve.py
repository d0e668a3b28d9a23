import copy
import itertools
import random
import unittest

from tests.drawn import FORTY, all_words, drawn_net, drawn_word, holds, small_nets, true_words

from fewchecks.rounds import mended
from fewchecks.solve import Maker, comes_of, filled, rank, settled

PRIMES = (2, 3, 7, 101, 10 ** 39 + 3, FORTY)
# Two places that no check tells alone: together they do. Place 4 is in no check.
TWO = (7, 5, [[(0, 1), (1, 1), (2, 1)], [(0, 1), (1, 2), (3, 1)]])


def added(net, factors):
    p, n, checks = net
    row = [0] * n
    for factor, pairs in zip(factors, checks):
        for place, own in pairs:
            row[place] = (row[place] + factor * own) % p
    return row


def are_letters(p, found, many):
    return type(found) is list and len(found) == many and all(type(x) is int and 0 <= x < p for x in found)


def is_true_word(net, word):
    return all(holds(net[0], pairs, word) for pairs in net[2])


def drawn_cases(seed, turns, most):
    drawn = random.Random(seed)
    for p in PRIMES:
        for turn in range(turns):
            n = drawn.randint(1, most)
            net = drawn_net(drawn, p, n, drawn.randint(0, most), drawn.choice((2, 3, 5, most)))
            yield drawn, net


# A net is made for a word, each check's last factor by the others, so that true words are
# drawn without the program.
def net_with_true_word(drawn, p, n, many):
    word = [drawn.randint(1, p - 1) for place in range(n)]
    checks = []
    while len(checks) < many:
        places = sorted(drawn.sample(range(n), drawn.randint(2, min(n, 5))))
        pairs = [(place, drawn.randint(1, p - 1)) for place in places[:-1]]
        rest = sum(factor * word[place] for place, factor in pairs)
        last = -rest * pow(word[places[-1]], -1, p) % p
        if last != 0:
            checks.append(pairs + [(places[-1], last)])
    return (p, n, checks), word


class SolveTest(unittest.TestCase):
    def assert_settled(self, net, word, place):
        p, n, checks = net
        before = copy.deepcopy((net, word))
        told = settled(net, word, place)
        self.assertEqual((net, word), before)
        self.assertIs(type(told), tuple)
        if told[0] == "told":
            kind, letter, factors = told
            self.assertTrue(are_letters(p, factors, len(checks)))
            self.assertTrue(are_letters(p, [letter], 1))
            row = added(net, factors)
            for other in range(n):
                if word[other] is None:
                    self.assertEqual(row[other], 1 if other == place else 0)
            known = sum(row[other] * word[other] for other in range(n) if word[other] is not None)
            self.assertEqual((letter + known) % p, 0)
        else:
            kind, other_word = told
            self.assertEqual(kind, "open")
            self.assertTrue(are_letters(p, other_word, n))
            self.assertEqual(other_word[place], 1)
            self.assertTrue(all(letter == 0 for letter, known in zip(other_word, word) if known is not None))
            self.assertTrue(is_true_word(net, other_word))
        return told

    def assert_filled(self, net, word):
        p, n, checks = net
        before = copy.deepcopy((net, word))
        told = filled(net, word)
        self.assertEqual((net, word), before)
        self.assertIs(type(told), tuple)
        self.assertEqual(len(told), 2)
        if told[0] == "word":
            self.assertTrue(are_letters(p, told[1], n))
            self.assertTrue(all(known in (None, letter) for letter, known in zip(told[1], word)))
            self.assertTrue(is_true_word(net, told[1]))
            self.assertIsNot(told[1], word)
        else:
            self.assertEqual(told[0], "none")
            self.assertTrue(are_letters(p, told[1], len(checks)))
            row = added(net, told[1])
            self.assertTrue(all(row[place] == 0 for place in range(n) if word[place] is None))
            self.assertEqual(sum(row[place] * (word[place] or 0) for place in range(n)) % p, 1)
        return told

    def assert_comes_of(self, net, c):
        before = copy.deepcopy(net)
        told = comes_of(net, c)
        self.assertEqual(net, before)
        if told is not None:
            self.assertTrue(are_letters(net[0], told, c))
            self.assertEqual(added((net[0], net[1], net[2][:c]), told), added((net[0], net[1], net[2][c:c + 1]), [1]))
        return told

    def assert_maker(self, drawn, net):
        p, n, checks = net
        before = copy.deepcopy(net)
        maker = Maker(net)
        free = maker.free()
        self.assertIs(type(free), list)
        self.assertEqual(free, sorted(set(free)))
        self.assertTrue(all(0 <= place < n for place in free))
        self.assertEqual(len(free), n - rank(net))
        for turn in range(4):
            letters = [drawn.choice((0, 1, p - 1, drawn.randrange(p))) for place in free]
            handed = list(letters)
            word = maker.made(handed)
            self.assertEqual(handed, letters)
            self.assertTrue(are_letters(p, word, n))
            self.assertEqual([word[place] for place in free], letters)
            self.assertTrue(is_true_word(net, word))
            self.assertEqual(maker.made(letters), word)
        self.assertEqual(maker.free(), free)
        self.assertEqual(net, before)


class SettledTest(SolveTest):
    def test_told_by_two_checks_together(self):
        word = [None, None, 3, 5, 0]
        self.assertEqual(mended(TWO, word)[1], [])
        self.assertEqual(self.assert_settled(TWO, word, 0)[:2], ("told", 6))
        self.assertEqual(self.assert_settled(TWO, word, 1)[:2], ("told", 5))

    def test_told_by_one_check(self):
        self.assertEqual(self.assert_settled(TWO, [None, 2, 3, 5, None], 0)[:2], ("told", 2))
        self.assertEqual(self.assert_settled((7, 1, [[(0, 3)]]), [None], 0)[:2], ("told", 0))

    def test_open(self):
        self.assertEqual(self.assert_settled(TWO, [1, 2, 3, 5, None], 4), ("open", [0, 0, 0, 0, 1]))
        self.assertEqual(self.assert_settled(TWO, [None, None, None, 5, 1], 0)[0], "open")
        self.assertEqual(self.assert_settled(TWO, [None] * 5, 3)[0], "open")

    def test_one_told_and_one_open_of_one_word(self):
        net = (5, 4, [[(0, 1), (1, 1)], [(0, 2), (1, 2), (2, 1)], [(1, 1), (3, 4)]])
        word = [None, None, None, None]
        self.assertEqual(self.assert_settled(net, word, 2)[:2], ("told", 0))
        for place in (0, 1, 3):
            self.assertEqual(self.assert_settled(net, word, place)[0], "open")

    def test_no_checks(self):
        for p in PRIMES:
            self.assertEqual(settled((p, 3, []), [None, p - 1, None], 2), ("open", [0, 0, 1]))

    def test_letters_that_fit_no_true_word(self):
        net = (7, 3, [[(0, 1)], [(1, 1), (2, 1)]])
        self.assertEqual(self.assert_settled(net, [1, 1, None], 2)[:2], ("told", 6))

    def test_small_nets_against_all_true_words(self):
        kinds = {"told": 0, "open": 0}
        for drawn, net in small_nets(31, 25):
            p, n, checks = net
            words = true_words(net)
            true = drawn.choice(words)
            word = [None if drawn.random() < 0.6 else letter for letter in true]
            fitting = [other for other in words if all(a in (None, b) for a, b in zip(word, other))]
            for place in range(n):
                if word[place] is None:
                    told = self.assert_settled(net, word, place)
                    letters = {other[place] for other in fitting}
                    self.assertEqual(told[0] == "told", len(letters) == 1)
                    if told[0] == "told":
                        self.assertEqual(told[1], true[place])
                    kinds[told[0]] += 1
        self.assertTrue(min(kinds.values()) > 50, kinds)

    def test_drawn_nets_and_any_letters(self):
        kinds = {"told": 0, "open": 0}
        for drawn, net in drawn_cases(32, 10, 10):
            word = drawn_word(drawn, net[0], net[1], drawn.choice((0.3, 0.6, 1)))
            for place in range(net[1]):
                if word[place] is None:
                    kinds[self.assert_settled(net, word, place)[0]] += 1
        self.assertTrue(min(kinds.values()) > 50, kinds)

    def test_forty_places_and_forty_checks(self):
        drawn = random.Random(33)
        for p in (2, 7, FORTY):
            for most in (3, 40):
                net = drawn_net(drawn, p, 40, 40, most)
                word = drawn_word(drawn, p, 40, 0.7)
                lost = [place for place in range(40) if word[place] is None]
                for place in lost[::5]:
                    self.assert_settled(net, word, place)
                self.assert_settled(net, [None] * 40, 39)

    def test_new_lists_at_each_asking(self):
        word = [None, None, 3, 5, None]
        for place in (0, 4):
            first = settled(TWO, word, place)
            wanted = copy.deepcopy(first)
            first[-1].clear()
            self.assertEqual(settled(TWO, word, place), wanted)


class FilledTest(SolveTest):
    def test_ordinary(self):
        told = self.assert_filled(TWO, [None, None, 3, 5, None])
        self.assertEqual(told[0], "word")
        self.assertEqual(told[1][:4], [6, 5, 3, 5])

    def test_nothing_lost(self):
        self.assertEqual(self.assert_filled(TWO, [6, 5, 3, 5, 2]), ("word", [6, 5, 3, 5, 2]))
        self.assertEqual(self.assert_filled(TWO, [6, 5, 4, 5, 2])[0], "none")
        self.assertEqual(self.assert_filled(TWO, [6, 5, 3, 4, 2])[0], "none")

    def test_all_lost(self):
        self.assertEqual(self.assert_filled(TWO, [None] * 5)[0], "word")

    def test_none_by_two_checks_together(self):
        net = (7, 3, [[(0, 1), (1, 1)], [(0, 3), (1, 3), (2, 1)]])
        self.assertEqual(self.assert_filled(net, [None, None, 4])[0], "none")
        self.assertEqual(self.assert_filled(net, [None, None, 0])[0], "word")

    def test_the_sum_over_the_known_letters_is_one(self):
        for p in PRIMES:
            for letter in (1, p - 1, 2 % p):
                net = (p, 1, [[(0, p - 1)]])
                self.assertEqual(self.assert_filled(net, [letter])[0], "word" if letter == 0 else "none")

    def test_no_checks(self):
        self.assertEqual(filled((7, 2, []), [3, 4]), ("word", [3, 4]))
        self.assertEqual(self.assert_filled((7, 2, []), [None, 4])[0], "word")

    def test_small_nets_against_all_words(self):
        kinds = {"word": 0, "none": 0}
        for drawn, net in small_nets(34, 40):
            word = drawn_word(drawn, net[0], net[1], drawn.choice((0, 0.3, 0.5, 0.8)))
            fitting = [other for other in true_words(net) if all(a in (None, b) for a, b in zip(word, other))]
            told = self.assert_filled(net, word)
            self.assertEqual(told[0], "word" if fitting else "none")
            kinds[told[0]] += 1
        self.assertTrue(min(kinds.values()) > 30, kinds)

    def test_drawn_nets(self):
        for drawn, net in drawn_cases(35, 25, 12):
            self.assert_filled(net, drawn_word(drawn, net[0], net[1], drawn.choice((0.3, 0.6, 0.9))))

    def test_words_that_can_be_filled(self):
        drawn = random.Random(36)
        for p in (3, 7, FORTY):
            for turn in range(15):
                net, word = net_with_true_word(drawn, p, drawn.randint(2, 10), drawn.randint(0, 10))
                torn = [None if drawn.random() < 0.5 else letter for letter in word]
                self.assertEqual(self.assert_filled(net, torn)[0], "word")
                for place in range(net[1]):
                    if torn[place] is None:
                        told = self.assert_settled(net, torn, place)
                        self.assertTrue(told[0] == "open" or told[1] == word[place])

    def test_forty_places_and_forty_checks(self):
        drawn = random.Random(37)
        for p in (2, 7, FORTY):
            for most in (3, 40):
                net = drawn_net(drawn, p, 40, 40, most)
                for share in (0, 0.5, 0.9, 1):
                    self.assert_filled(net, drawn_word(drawn, p, 40, share))


class ComesOfTest(SolveTest):
    def test_ordinary(self):
        checks = [[(0, 1), (1, 2)], [(1, 1), (2, 3)], [(0, 1), (1, 3), (2, 3)], [(0, 2), (1, 5), (2, 3)], [(2, 1)]]
        net = (7, 3, checks)
        self.assertIsNone(comes_of(net, 0))
        self.assertIsNone(comes_of(net, 1))
        self.assertEqual(comes_of(net, 2), [1, 1])
        self.assertIsNotNone(self.assert_comes_of(net, 3))
        self.assertIsNone(comes_of(net, 4))
        self.assertEqual(rank(net), 3)

    def test_the_same_check_twice(self):
        for p in PRIMES:
            pairs = [(0, 1), (2, p - 1)]
            net = (p, 3, [pairs, list(pairs), list(pairs)])
            self.assertIsNone(comes_of(net, 0))
            self.assertEqual(comes_of(net, 1), [1])
            self.assertIsNotNone(self.assert_comes_of(net, 2))
            self.assertEqual(rank(net), 1)

    def test_a_multiple(self):
        self.assertEqual(comes_of((7, 2, [[(0, 3), (1, 1)], [(0, 1), (1, 5)]]), 1), [5])
        self.assertIsNone(comes_of((7, 2, [[(0, 3), (1, 1)], [(0, 1), (1, 4)]]), 1))

    def test_checks_behind_do_not_count(self):
        net = (7, 2, [[(0, 1)], [(0, 1), (1, 1)], [(1, 1)]])
        self.assertIsNone(comes_of(net, 1))
        self.assertEqual(comes_of(net, 2), [6, 1])
        self.assertIsNone(comes_of((7, 2, [[(0, 1)], [(1, 1)], [(1, 1)]]), 1))

    def test_the_first_check_comes_of_none(self):
        for p in PRIMES:
            self.assertIsNone(comes_of((p, 1, [[(0, p - 1)]]), 0))

    def test_small_nets_against_all_sums(self):
        kinds = {True: 0, False: 0}
        for drawn, net in small_nets(38, 15):
            p, n, checks = net
            for c in range(min(len(checks), 4)):
                own = added((p, n, checks[c:c + 1]), [1])
                comes = any(added((p, n, checks[:c]), factors) == own
                            for factors in itertools.product(range(p), repeat=c))
                told = self.assert_comes_of(net, c)
                self.assertEqual(told is not None, comes)
                kinds[comes] += 1
        self.assertTrue(min(kinds.values()) > 20, kinds)

    def test_drawn_nets(self):
        for drawn, net in drawn_cases(39, 10, 10):
            for c in range(len(net[2])):
                self.assert_comes_of(net, c)


class RankTest(SolveTest):
    def test_ordinary(self):
        self.assertEqual(rank(TWO), 2)
        self.assertEqual(rank((7, 3, [])), 0)
        self.assertEqual(rank((7, 2, [[(0, 1)], [(1, 1)], [(0, 1), (1, 1)]])), 2)

    def test_it_hangs_on_the_prime(self):
        checks = [[(0, 1), (1, 1)], [(1, 1), (2, 1)], [(0, 1), (2, 1)]]
        self.assertEqual(rank((2, 3, checks)), 2)
        self.assertEqual(rank((3, 3, checks)), 3)

    def test_against_comes_of(self):
        for drawn, net in drawn_cases(40, 15, 9):
            before = copy.deepcopy(net)
            self.assertEqual(rank(net), [comes_of(net, c) for c in range(len(net[2]))].count(None))
            self.assertEqual(net, before)

    def test_against_the_count_of_true_words(self):
        for drawn, net in small_nets(41, 30):
            self.assertEqual(len(true_words(net)), net[0] ** (net[1] - rank(net)))

    def test_forty_places_and_forty_checks(self):
        for p in (2, 7, FORTY):
            stairs = [[(place, 1 + place % (p - 1)) for place in range(c, 40)] for c in range(40)]
            self.assertEqual(rank((p, 40, stairs)), 40)
            self.assertEqual(rank((p, 40, stairs[:20] + stairs[:20])), 20)
            net = drawn_net(random.Random(42), p, 40, 40, 4)
            self.assertEqual(rank(net), [comes_of(net, c) for c in range(40)].count(None))


class MakerTest(SolveTest):
    def test_ordinary(self):
        drawn = random.Random(43)
        self.assert_maker(drawn, TWO)
        self.assertEqual(len(Maker(TWO).free()), 3)

    def test_no_checks(self):
        maker = Maker((7, 4, []))
        self.assertEqual(maker.free(), [0, 1, 2, 3])
        self.assertEqual(maker.made([6, 0, 5, 1]), [6, 0, 5, 1])

    def test_no_free_place(self):
        maker = Maker((7, 2, [[(0, 1), (1, 1)], [(1, 3)]]))
        self.assertEqual(maker.free(), [])
        self.assertEqual(maker.made([]), [0, 0])

    def test_each_true_word_is_made_once(self):
        for drawn, net in small_nets(44, 20):
            maker = Maker(net)
            rows = all_words(net[0], len(maker.free()))
            made = [maker.made(row) for row in rows]
            self.assertEqual(sorted(made), sorted(true_words(net)))

    def test_drawn_nets(self):
        for drawn, net in drawn_cases(45, 25, 12):
            self.assert_maker(drawn, net)

    def test_forty_places_and_forty_checks(self):
        drawn = random.Random(46)
        for p in (2, 7, 10 ** 39 + 3, FORTY):
            for most in (2, 3, 5, 40):
                self.assert_maker(drawn, drawn_net(drawn, p, 40, 40, most))
            self.assert_maker(drawn, drawn_net(drawn, p, 40, 20, 40))

    def test_new_lists_at_each_asking(self):
        maker = Maker(TWO)
        free = maker.free()
        wanted = list(free)
        self.assertIsNot(free, maker.free())
        free.clear()
        self.assertEqual(maker.free(), wanted)
        word = maker.made([1, 2, 3])
        made = list(word)
        word.clear()
        self.assertEqual(maker.made([1, 2, 3]), made)

    def test_letters_handed_in_are_not_kept(self):
        maker = Maker((7, 3, []))
        letters = [1, 2, 3]
        word = maker.made(letters)
        self.assertIsNot(word, letters)
        word[0] = 6
        self.assertEqual(letters, [1, 2, 3])

    def test_what_is_done_to_the_net_behind_it_changes_nothing(self):
        for change in (lambda net: net[2].clear(), lambda net: net[2][0].clear(), lambda net: net[2].append([(4, 1)]),
                       lambda net: net[2][1].__setitem__(0, (0, 6))):
            net = copy.deepcopy(TWO)
            maker = Maker(net)
            free = maker.free()
            change(net)
            self.assertEqual(maker.free(), free)
            self.assertTrue(is_true_word(TWO, maker.made([4, 5, 6])))


if __name__ == "__main__":
    unittest.main()
