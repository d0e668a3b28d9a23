import itertools
import random
import unittest

from tests.drawn import FORTY, all_words, asked, drawn_word, holds, true_words

from fewchecks.errors import NetError, NoNet
from fewchecks.knit import knit, laid, staired
from fewchecks.nets import crossed, degrees, formed, is_true
from fewchecks.rounds import mended
from fewchecks.solve import Maker
from fewchecks.votes import turned

PRIMES = (2, 3, 5, 7, 101, FORTY)


# Word by word as the document has it, with sets of places: a net, or the place that is refused.
def plain_knit(p, n, many, each):
    own = [set() for c in range(many)]
    checks = [[] for c in range(many)]
    for i in range(n):
        taken = []
        for j in range(each):
            able = [c for c in range(many) if c not in taken and not any(own[c] & own[d] for d in taken)]
            if not able:
                return i
            taken.append(min(able, key=lambda c: (len(own[c]), c)))
        for j, c in enumerate(taken):
            own[c].add(i)
            checks[c].append((i, (i * each + j) % (p - 1) + 1))
    return (p, n, [pairs for pairs in checks if pairs])


class KnitTest(unittest.TestCase):
    def assert_knit(self, p, n, many, each):
        wanted = plain_knit(p, n, many, each)
        if isinstance(wanted, int):
            with self.assertRaises(NoNet) as caught:
                knit(p, n, many, each)
            self.assertEqual(caught.exception.place, wanted)
            self.assertIs(type(caught.exception.place), int)
            return None
        net = asked(self, knit, p, n, many, each)
        self.assertEqual(net, wanted)
        self.assertTrue(formed(net))
        self.assertIsNone(crossed(net))
        self.assertEqual(degrees(net)[0], [(each, n)])
        return net

    def test_by_hand(self):
        self.assertEqual(knit(7, 3, 3, 2), (7, 3, [[(0, 1), (1, 4)], [(0, 2), (2, 5)], [(1, 3), (2, 6)]]))
        self.assertEqual(knit(7, 4, 2, 1), (7, 4, [[(0, 1), (2, 3)], [(1, 2), (3, 4)]]))
        self.assertEqual(knit(5, 1, 2, 2), (5, 1, [[(0, 1)], [(0, 2)]]))
        self.assertEqual(knit(3, 1, 1, 1), (3, 1, [[(0, 1)]]))

    def test_the_fewest_places_and_then_the_least_number(self):
        # Place 2 takes the empty check 4 ahead of check 0, and place 3 then passes over check 0.
        self.assertEqual(knit(7, 4, 5, 2),
                         (7, 4, [[(0, 1), (2, 6)], [(0, 2), (3, 1)], [(1, 3), (3, 2)], [(1, 4)], [(2, 5)]]))

    def test_sharing_is_asked(self):
        self.assertEqual(knit(7, 6, 4, 2),
                         (7, 6, [[(0, 1), (2, 5), (4, 3)], [(0, 2), (3, 1), (5, 5)],
                                 [(1, 3), (2, 6), (5, 6)], [(1, 4), (3, 2), (4, 4)]]))
        with self.assertRaises(NoNet) as caught:
            knit(7, 7, 4, 2)
        self.assertEqual(caught.exception.place, 6)

    def test_each_check_in_its_turn(self):
        for many in range(1, 9):
            net = self.assert_knit(7, 20, many, 1)
            for c, pairs in enumerate(net[2]):
                self.assertEqual([place for place, factor in pairs], list(range(c, 20, many)))

    def test_factors(self):
        self.assertEqual([factor for pairs in knit(2, 6, 4, 2)[2] for place, factor in pairs], [1] * 12)
        for p in PRIMES:
            net = self.assert_knit(p, 12, 9, 3)
            taken = {}
            for c, pairs in enumerate(net[2]):
                for place, factor in pairs:
                    self.assertTrue(1 <= factor < p)
                    taken.setdefault(place, []).append(factor)
            for place, factors in taken.items():
                self.assertEqual(sorted(factors), sorted(1 + (place * 3 + j) % (p - 1) for j in range(3)))

    def test_checks_without_a_place_are_left_out(self):
        self.assertEqual(knit(7, 2, 100, 1), (7, 2, [[(0, 1)], [(1, 2)]]))
        self.assertEqual(knit(7, 1, 100, 6), (7, 1, [[(0, 1 + j)] for j in range(6)]))
        self.assertEqual(len(knit(7, 5, 100, 6)[2]), 30)
        for net in (knit(3, 3, 60, 2), knit(FORTY, 10, 100, 3)):
            self.assertTrue(all(pairs for pairs in net[2]))

    def test_fewer_checks_than_asked_for(self):
        found = 0
        for n, many, each in itertools.product(range(1, 9), range(1, 14), range(1, 5)):
            net = self.assert_knit(7, n, many, each)
            found += net is not None and len(net[2]) < many
        self.assertTrue(found > 10)

    def test_each_more_than_many(self):
        for p, n, many in itertools.product((2, 7, FORTY), (1, 2, 100), (1, 2, 3, 5)):
            with self.assertRaises(NoNet) as caught:
                knit(p, n, many, many + 1)
            self.assertEqual(caught.exception.place, 0)

    def test_refused_with_the_first_place_for_which_there_is_none(self):
        for n in (2, 3, 100):
            with self.assertRaises(NoNet) as caught:
                knit(5, n, 2, 2)
            self.assertEqual(caught.exception.place, 1)
        with self.assertRaises(NoNet) as caught:
            knit(5, 4, 3, 2)
        self.assertEqual(caught.exception.place, 3)
        self.assertIsInstance(caught.exception, NetError)

    def test_small_ones_held_against_a_plain_reckoning(self):
        counts = {True: 0, False: 0}
        for n, many, each in itertools.product(range(1, 13), range(1, 13), range(1, 5)):
            counts[self.assert_knit(5, n, many, each) is None] += 1
        self.assertTrue(min(counts.values()) > 50, counts)

    def test_great_ones_held_against_a_plain_reckoning(self):
        drawn = random.Random(71)
        refused = 0
        for each in range(1, 7):
            self.assert_knit(FORTY, 100, 100, each)
            for turn in range(8):
                p = drawn.choice(PRIMES)
                refused += self.assert_knit(p, drawn.randint(30, 100), drawn.randint(20, 100), each) is None
        self.assertTrue(2 < refused < 40, refused)

    def test_lost_and_wrong_letters_come_right(self):
        drawn = random.Random(72)
        for p, each in itertools.product((2, 5, FORTY), range(1, 5)):
            net = knit(p, 16, 24, each)
            maker = Maker(net)
            for turn in range(6):
                word = maker.made([drawn.randrange(p) for place in maker.free()])
                self.assertTrue(is_true(net, word))
                lost = list(word)
                wrong = list(word)
                for place in drawn.sample(range(16), each):
                    lost[place] = None
                for place in drawn.sample(range(16), each // 2):
                    wrong[place] = (wrong[place] + drawn.randrange(1, p)) % p
                told = mended(net, lost)
                self.assertEqual((told[0], len(told[1])), (word, 1))
                self.assertEqual(turned(net, wrong)[0], word)


def drawn_rows(drawn, k, many, most):
    return [sorted(drawn.sample(range(k), drawn.randint(0, min(k, most)))) for row in range(many)]


class StairedTest(unittest.TestCase):
    def test_by_hand(self):
        self.assertEqual(staired(7, 3, [[0, 2], [1], [0, 1, 2]]),
                         (7, 6, [[(0, 1), (2, 1), (3, 6)], [(1, 1), (3, 1), (4, 6)],
                                 [(0, 1), (1, 1), (2, 1), (4, 1), (5, 6)]]))

    def test_no_rows(self):
        for p in PRIMES:
            self.assertEqual(staired(p, 4, []), (p, 4, []))

    def test_rows_without_places(self):
        self.assertEqual(staired(5, 2, [[]]), (5, 3, [[(2, 4)]]))
        self.assertEqual(staired(5, 2, [[], []]), (5, 4, [[(2, 4)], [(2, 1), (3, 4)]]))
        self.assertEqual(staired(5, 2, [[1], []]), (5, 4, [[(1, 1), (2, 4)], [(2, 1), (3, 4)]]))

    def test_the_first_row_has_not_the_place_ahead(self):
        self.assertEqual(staired(5, 1, [[], [0]]), (5, 3, [[(1, 4)], [(0, 1), (1, 1), (2, 4)]]))
        self.assertEqual(staired(5, 3, [[0]])[2][0], [(0, 1), (3, 4)])

    def test_factors(self):
        self.assertEqual(staired(2, 2, [[0, 1], [1]]), (2, 4, [[(0, 1), (1, 1), (2, 1)], [(1, 1), (2, 1), (3, 1)]]))
        last = FORTY - 1
        self.assertEqual(staired(FORTY, 1, [[0], [0]])[2], [[(0, 1), (1, last)], [(0, 1), (1, 1), (2, last)]])

    def test_formed_and_new_lists(self):
        drawn = random.Random(73)
        for p in PRIMES:
            for turn in range(20):
                k = drawn.randint(1, 12)
                net = asked(self, staired, p, k, drawn_rows(drawn, k, drawn.randint(0, 12), 5))
                self.assertTrue(formed(net))

    def test_two_hundred_places_and_rows(self):
        drawn = random.Random(74)
        for p in (2, FORTY):
            rows = drawn_rows(drawn, 200, 200, 5)
            net = asked(self, staired, p, 200, rows)
            self.assertTrue(formed(net))
            self.assertEqual((net[1], len(net[2])), (400, 200))
            for c, pairs in enumerate(net[2]):
                ahead = [(199 + c, 1)] if c > 0 else []
                self.assertEqual(pairs, [(place, 1) for place in rows[c]] + ahead + [(200 + c, p - 1)])

    def test_one_row_handed_in_twice(self):
        row = [0, 1]
        net = asked(self, staired, 3, 2, [row, row])
        self.assertEqual(net[2], [[(0, 1), (1, 1), (2, 2)], [(0, 1), (1, 1), (2, 1), (3, 2)]])


class LaidTest(unittest.TestCase):
    def test_by_hand(self):
        self.assertEqual(laid(7, 3, [[0, 2], [1], [0, 1, 2]], [3, 5, 6]), [3, 5, 6, 2, 0, 0])
        self.assertEqual(laid(2, 2, [[0, 1], [1]], [1, 1]), [1, 1, 0, 1])

    def test_no_rows(self):
        letters = [4, 0, 3]
        told = asked(self, laid, 5, 3, [], letters)
        self.assertEqual(told, letters)
        self.assertIsNot(told, letters)

    def test_rows_without_places(self):
        self.assertEqual(laid(5, 2, [[], [], [1], []], [4, 3]), [4, 3, 0, 0, 3, 3])

    def test_rows_that_share_places(self):
        row = [0, 1, 2]
        self.assertEqual(asked(self, laid, 5, 3, [row, row, [0, 1], [1, 2], row], [1, 2, 4]),
                         [1, 2, 4, 2, 4, 2, 3, 0])

    def test_true_words_that_begin_with_the_letters(self):
        drawn = random.Random(75)
        for p in PRIMES:
            for turn in range(20):
                k = drawn.randint(1, 12)
                rows = drawn_rows(drawn, k, drawn.randint(0, 14), 5)
                letters = drawn_word(drawn, p, k, 0)
                word = asked(self, laid, p, k, rows, letters)
                net = staired(p, k, rows)
                self.assertEqual(word[:k], letters)
                self.assertEqual(len(word), net[1])
                self.assertTrue(all(0 <= letter < p for letter in word))
                self.assertTrue(all(holds(p, pairs, word) for pairs in net[2]))

    def test_each_true_word_is_laid_once(self):
        drawn = random.Random(76)
        for p, k, many in ((2, 3, 4), (3, 2, 3), (5, 2, 2), (2, 1, 6)):
            for turn in range(6):
                rows = drawn_rows(drawn, k, many, 3)
                told = [laid(p, k, rows, letters) for letters in all_words(p, k)]
                self.assertEqual(told, true_words(staired(p, k, rows)))

    def test_two_hundred_places_and_rows(self):
        drawn = random.Random(77)
        for p in (2, FORTY):
            rows = drawn_rows(drawn, 200, 200, 5)
            letters = drawn_word(drawn, p, 200, 0)
            word = asked(self, laid, p, 200, rows, letters)
            self.assertEqual((word[:200], len(word)), (letters, 400))
            self.assertTrue(is_true(staired(p, 200, rows), word))


if __name__ == "__main__":
    unittest.main()
