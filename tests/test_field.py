import copy
import random
import unittest

from tests.drawn import FORTY, SIXTY

from fewchecks.field import over, total

PRIMES = (2, 3, 5, 7, 13, 101, 10 ** 9 + 7, 10 ** 39 + 3, FORTY)


class OverTest(unittest.TestCase):
    def assert_quotient(self, p, a, b):
        told = over(p, a, b)
        self.assertIs(type(told), int)
        self.assertTrue(0 <= told < p, (p, a, b, told))
        self.assertEqual((b * told - a) % p, 0, (p, a, b, told))

    def test_known_quotients(self):
        self.assertEqual(over(7, 3, 5), 2)
        self.assertEqual(over(7, 1, 3), 5)
        self.assertEqual(over(2, 1, 1), 1)
        self.assertEqual(over(13, 5, 1), 5)

    def test_all_of_small_primes(self):
        for p in (2, 3, 5, 7, 13):
            for a in range(-2 * p, 2 * p + 1):
                for b in range(-2 * p, 2 * p + 1):
                    if b % p != 0:
                        self.assert_quotient(p, a, b)

    def test_great_numbers(self):
        for p in PRIMES:
            for a in (0, 1, -1, p - 1, p, p + 1, -p, SIXTY, -SIXTY, SIXTY - 1):
                for b in (1, -1, p - 1, p + 1, 2 * p + 1, 1 - p, SIXTY, -SIXTY, SIXTY - 1):
                    if b % p != 0:
                        self.assert_quotient(p, a, b)

    def test_many_drawn_numbers(self):
        drawn = random.Random(1)
        for p in PRIMES:
            for turn in range(100):
                a = drawn.randint(-SIXTY, SIXTY)
                b = drawn.randint(-SIXTY, SIXTY)
                if b % p != 0:
                    self.assert_quotient(p, a, b)

    def test_multiples_of_p_give_nought(self):
        for p in PRIMES:
            for a in (0, p, -p, 2 * p, p * 10 ** 19):
                for b in (1, -1, p + 1):
                    self.assertEqual(over(p, a, b), 0)


class TotalTest(unittest.TestCase):
    def test_ordinary(self):
        self.assertEqual(total(7, [(0, 2), (2, 3)], [4, 6, 5]), (8 + 15) % 7)

    def test_no_pairs(self):
        for p in PRIMES:
            self.assertEqual(total(p, [], [1, None]), 0)

    def test_a_place_twice(self):
        self.assertEqual(total(7, [(1, 3), (1, 2)], [6, 4]), 20 % 7)
        self.assertEqual(total(7, [(1, 3), (1, 3)], [6, 4]), 24 % 7)

    def test_places_in_any_order(self):
        pairs = [(3, 5), (0, 1), (2, 4), (1, 6)]
        self.assertEqual(total(11, pairs, [2, 3, 5, 7]), (35 + 2 + 20 + 18) % 11)

    def test_any_factors(self):
        word = [3, 5, 6]
        self.assertEqual(total(7, [(0, -1)], word), 4)
        self.assertEqual(total(7, [(0, 0), (1, 0)], word), 0)
        self.assertEqual(total(7, [(0, 7), (1, 14), (2, -7)], word), 0)
        pairs = [(0, SIXTY), (1, -SIXTY), (2, SIXTY - 5), (1, 1 - SIXTY)]
        wanted = 3 * SIXTY - 5 * SIXTY + 6 * (SIXTY - 5) + 5 * (1 - SIXTY)
        self.assertEqual(total(7, pairs, word), wanted % 7)

    def test_great_primes(self):
        word = [FORTY - 1, 1, FORTY - 2]
        pairs = [(2, SIXTY), (0, -SIXTY)]
        self.assertEqual(total(FORTY, pairs, word), -SIXTY % FORTY)

    def test_the_answer_is_a_letter(self):
        drawn = random.Random(2)
        for p in PRIMES:
            for turn in range(50):
                n = drawn.randint(1, 12)
                word = [drawn.choice((None, drawn.randrange(p))) for place in range(n)]
                pairs = [(drawn.randrange(n), drawn.randint(-SIXTY, SIXTY)) for k in range(drawn.randint(0, 20))]
                wanted = sum(factor * (word[place] or 0) for place, factor in pairs) % p
                told = total(p, pairs, word)
                self.assertIs(type(told), int)
                self.assertEqual(told, wanted)

    def test_lost_letters_are_left_out(self):
        self.assertEqual(total(7, [(0, 2), (1, 5), (2, 3)], [4, None, 5]), (8 + 15) % 7)
        self.assertEqual(total(7, [(0, 2), (1, 5), (1, 4)], [None, None]), 0)

    def test_what_is_handed_in_stays(self):
        pairs = [(2, -9), (0, 4), (2, 1)]
        word = [3, None, 5]
        before = copy.deepcopy((pairs, word))
        total(7, pairs, word)
        self.assertEqual((pairs, word), before)


if __name__ == "__main__":
    unittest.main()
