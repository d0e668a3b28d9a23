import itertools
import math
import random
import unittest
from fractions import Fraction

from tests.drawn import asked

from fewchecks.growth import bounds, fate, grow, limit

THREE = [(3, 1)]
SIX = [(6, 1)]
GREAT = [(degree, 10 ** 6 - degree) for degree in range(13)]
THIRTEEN = 10 ** 13 - 1


def plain_told(counts, x):
    above = sum(degree * many * x ** (degree - 1) for degree, many in counts if degree > 0)
    return above / Fraction(sum(degree * many for degree, many in counts))


def plain_grown(letters, checks, share, x):
    return share * plain_told(letters, 1 - plain_told(checks, 1 - x))


def plain_bounds(letters, checks, share, figures, steps):
    unit = 10 ** figures
    low = math.floor(share * unit)
    high = math.ceil(share * unit)
    found = [(low, high)]
    for step in range(steps):
        low = math.floor(plain_grown(letters, checks, share, Fraction(low, unit)) * unit)
        high = math.ceil(plain_grown(letters, checks, share, Fraction(high, unit)) * unit)
        found.append((low, high))
    return found


def plain_fate(letters, checks, share, goal, figures, most):
    found = plain_bounds(letters, checks, share, figures, most + 1)
    for step in range(most + 1):
        if found[step][1] <= goal:
            return ("falls", step)
        if found[step + 1][0] == found[step][0] > goal:
            return ("stays", found[step][0])
    return ("open",)


def drawn_counts(drawn):
    degrees = sorted(drawn.sample(range(13), drawn.randint(1, 5)))
    counts = [(degree, drawn.choice((0, 1, 2, 10, 10 ** 6))) for degree in degrees]
    if any(degree * many for degree, many in counts):
        return counts
    return drawn_counts(drawn)


def drawn_share(drawn):
    b = drawn.choice((1, 2, 7, 10, 1000, 10 ** 6, drawn.randint(1, THIRTEEN)))
    return (drawn.randint(0, b), b)


class GrowTest(unittest.TestCase):
    def test_by_hand(self):
        self.assertEqual(grow(THREE, SIX, (1, 2), (1, 2)), (961, 2048))
        self.assertEqual(grow([(2, 5)], [(2, 3)], (1, 2), (1, 3)), (1, 6))
        self.assertEqual(grow([(2, 1), (3, 1)], [(1, 1), (2, 1)], (1, 1), (1, 2)), (1, 5))

    def test_lowest_terms(self):
        self.assertEqual(grow([(1, 4)], [(3, 9)], (6, 8), (2, 9)), (3, 4))
        self.assertEqual(grow([(2, 1)], [(2, 1)], (10, 15), (6, 8)), (1, 2))
        self.assertEqual(grow([(2, 1)], [(2, 1)], (5, 5), (3, 3)), (1, 1))

    def test_nought(self):
        self.assertEqual(grow(THREE, SIX, (0, 7), (3, 4)), (0, 1))
        self.assertEqual(grow(THREE, SIX, (0, THIRTEEN), (THIRTEEN, THIRTEEN)), (0, 1))
        self.assertEqual(grow(THREE, SIX, (4, 7), (0, 5)), (0, 1))
        self.assertEqual(grow([(2, 3), (5, 1)], GREAT, (4, 7), (0, 1)), (0, 1))

    def test_the_power_nought_is_one(self):
        self.assertEqual(grow([(1, 1)], [(6, 1)], (4, 6), (0, 5)), (2, 3))
        self.assertEqual(grow([(1, 1), (2, 1)], [(6, 1)], (1, 2), (0, 5)), (1, 6))
        self.assertEqual(grow(THREE, [(1, 1)], (4, 7), (1, 1)), (0, 1))
        self.assertEqual(grow(THREE, [(1, 1)], (4, 7), (1, 2)), (0, 1))
        self.assertEqual(grow(THREE, [(1, 2), (2, 1)], (1, 1), (1, 1)), (1, 4))

    def test_the_whole(self):
        self.assertEqual(grow(THREE, SIX, (3, 7), (1, 1)), (3, 7))
        self.assertEqual(grow(THREE, SIX, (2, 2), (4, 4)), (1, 1))
        self.assertEqual(grow(GREAT, [(2, 1), (12, 3)], (1, 1), (9, 9)), (1, 1))

    def test_degree_nought_and_many_nought(self):
        for x in ((0, 1), (1, 3), (1, 1)):
            wanted = grow(THREE, SIX, (2, 5), x)
            self.assertEqual(grow([(0, 10 ** 6), (3, 1)], SIX, (2, 5), x), wanted)
            self.assertEqual(grow(THREE, [(0, 4), (6, 1)], (2, 5), x), wanted)
            self.assertEqual(grow([(0, 0), (1, 0), (3, 8), (12, 0)], [(0, 0), (6, 2), (7, 0)], (2, 5), x), wanted)

    def test_one_list_for_both_counts(self):
        for counts in (THREE, GREAT, [(0, 3), (2, 1), (5, 4)]):
            self.assertEqual(asked(self, grow, counts, counts, (1, 3), (2, 7)),
                             grow(list(counts), list(counts), (1, 3), (2, 7)))

    def test_against_exact_fractions(self):
        drawn = random.Random(81)
        for turn in range(400):
            letters = drawn_counts(drawn)
            checks = drawn_counts(drawn)
            share = drawn_share(drawn)
            x = drawn_share(drawn)
            told = asked(self, grow, letters, checks, share, x)
            wanted = plain_grown(letters, checks, Fraction(*share), Fraction(*x))
            self.assertEqual(told, (wanted.numerator, wanted.denominator))
            self.assertIs(type(told), tuple)

    def test_great_numbers(self):
        share = (THIRTEEN - 1, THIRTEEN)
        told = grow(GREAT, GREAT, share, (THIRTEEN - 3, THIRTEEN))
        wanted = plain_grown(GREAT, GREAT, Fraction(*share), Fraction(THIRTEEN - 3, THIRTEEN))
        self.assertEqual(told, (wanted.numerator, wanted.denominator))
        self.assertEqual(math.gcd(told[0], told[1]), 1)
        self.assertTrue(told[1] > 10 ** 1600)


class BoundsTest(unittest.TestCase):
    def test_the_first_pair(self):
        self.assertEqual(bounds(THREE, SIX, (1, 3), 2, 0), [(33, 34)])
        self.assertEqual(bounds(THREE, SIX, (1, 2), 1, 0), [(5, 5)])
        self.assertEqual(bounds(THREE, SIX, (0, 9), 12, 0), [(0, 0)])
        self.assertEqual(bounds(THREE, SIX, (9, 9), 12, 0), [(10 ** 12, 10 ** 12)])
        self.assertEqual(bounds(THREE, SIX, (1, THIRTEEN), 12, 0), [(0, 1)])
        self.assertEqual(bounds(THREE, SIX, (THIRTEEN - 1, THIRTEEN), 12, 0), [(10 ** 12 - 1, 10 ** 12)])

    def test_rounded_at_each_step(self):
        # 0.3 gives 0.3 times (1 - 0.7 to the fifth) squared: 0.2076..; 0.2 gives 0.1355.., 0.3 again 0.2076..
        self.assertEqual(bounds(THREE, SIX, (3, 10), 1, 2), [(3, 3), (2, 3), (1, 3)])
        self.assertEqual(bounds(THREE, SIX, (3, 10), 2, 2), [(30, 30), (20, 21), (13, 15)])

    def test_under_the_lost_share_itself(self):
        # A share between two parts is not rounded where it stands as a factor.
        self.assertEqual(bounds([(1, 1)], SIX, (1, 3), 1, 2), [(3, 4)] * 3)
        self.assertEqual(bounds([(2, 1)], [(2, 1)], (1, 3), 2, 2), [(33, 34), (11, 12), (3, 4)])
        self.assertEqual(bounds([(2, 1)], [(2, 1)], (25, 100), 1, 1), [(2, 3), (0, 1)])
        self.assertEqual(bounds([(2, 1)], [(2, 1)], (35, 100), 1, 1), [(3, 4), (1, 2)])

    def test_steps_and_one_pairs(self):
        for steps in (0, 1, 2, 199, 200):
            told = asked(self, bounds, THREE, SIX, (43, 100), 12, steps)
            self.assertEqual(len(told), steps + 1)
            self.assertEqual(told, bounds(THREE, SIX, (43, 100), 12, 200)[:steps + 1])

    def test_against_exact_fractions(self):
        drawn = random.Random(82)
        for turn in range(150):
            letters = drawn_counts(drawn)
            checks = letters if turn % 10 == 0 else drawn_counts(drawn)
            share = drawn_share(drawn)
            figures = drawn.randint(1, 12)
            told = asked(self, bounds, letters, checks, share, figures, 4)
            self.assertEqual(told, plain_bounds(letters, checks, Fraction(*share), figures, 4))
            self.assertTrue(all(type(pair) is tuple for pair in told))

    def test_they_hold_what_they_bound(self):
        drawn = random.Random(83)
        for turn in range(40):
            letters = [(1, drawn.randint(0, 3)), (2, drawn.randint(1, 5)), (3, drawn.randint(0, 5))]
            checks = [(2, drawn.randint(1, 5)), (4, drawn.randint(0, 5))]
            share = (drawn.randint(0, 97), 97)
            x = Fraction(*share)
            for low, high in bounds(letters, checks, share, 3, 4):
                self.assertTrue(low <= x * 1000 <= high)
                x = plain_grown(letters, checks, Fraction(*share), x)

    def test_great_numbers_and_many_steps(self):
        told = bounds(GREAT, GREAT, (THIRTEEN - 1, THIRTEEN), 12, 200)
        self.assertEqual(told[:6], plain_bounds(GREAT, GREAT, Fraction(THIRTEEN - 1, THIRTEEN), 12, 5))
        self.assertEqual(len(told), 201)


class FateTest(unittest.TestCase):
    def test_falls_at_step_nought(self):
        for most in (0, 1, 200):
            self.assertEqual(fate(THREE, SIX, (1, 3), 34, 2, most), ("falls", 0))
            self.assertEqual(fate(THREE, SIX, (0, 3), 0, 2, most), ("falls", 0))
            self.assertEqual(fate(THREE, SIX, (1, 1), 100, 2, most), ("falls", 0))
        self.assertNotEqual(fate(THREE, SIX, (1, 3), 33, 2, 0), ("falls", 0))

    def test_falls_at_a_later_step_and_at_the_last_one(self):
        self.assertEqual(bounds(THREE, SIX, (3, 10), 2, 2), [(30, 30), (20, 21), (13, 15)])
        for most in (1, 2, 200):
            self.assertEqual(fate(THREE, SIX, (3, 10), 21, 2, most), ("falls", 1))
        for most in (2, 3, 200):
            self.assertEqual(fate(THREE, SIX, (3, 10), 20, 2, most), ("falls", 2))
            self.assertEqual(fate(THREE, SIX, (3, 10), 15, 2, most), ("falls", 2))
        self.assertEqual(fate(THREE, SIX, (3, 10), 20, 2, 1), ("open",))
        self.assertEqual(fate(THREE, SIX, (3, 10), 21, 2, 0), ("open",))

    def test_stays(self):
        for most in (0, 1, 200):
            self.assertEqual(fate([(1, 1)], SIX, (1, 2), 49, 2, most), ("stays", 50))
            self.assertEqual(fate([(1, 1)], SIX, (1, 2), 0, 2, most), ("stays", 50))
            self.assertEqual(fate(THREE, SIX, (1, 1), 99, 2, most), ("stays", 100))

    def test_stays_only_above_the_goal(self):
        # Here low is 3 at each step and high 4.
        self.assertEqual(fate([(1, 1)], SIX, (1, 3), 3, 1, 200), ("open",))
        self.assertEqual(fate([(1, 1)], SIX, (1, 3), 2, 1, 200), ("stays", 3))
        self.assertEqual(fate([(1, 1)], SIX, (1, 3), 4, 1, 200), ("falls", 0))

    def test_the_next_low_is_asked_at_the_last_step_too(self):
        found = bounds(THREE, SIX, (1, 2), 3, 40)
        first = min(step for step in range(40) if found[step][0] == found[step + 1][0])
        low = found[first][0]
        self.assertTrue(first > 3 and low > 100)
        for most in (first, first + 1, 200):
            self.assertEqual(fate(THREE, SIX, (1, 2), 100, 3, most), ("stays", low))
        for most in (0, 1, first - 1):
            self.assertEqual(fate(THREE, SIX, (1, 2), 100, 3, most), ("open",))

    def test_open(self):
        self.assertEqual(fate(THREE, SIX, (4, 10), 0, 6, 3), ("open",))
        self.assertEqual(fate(THREE, SIX, (1, 10), 0, 6, 200), ("open",))

    def test_most_nought(self):
        self.assertEqual(fate(THREE, SIX, (3, 10), 30, 2, 0), ("falls", 0))
        self.assertEqual(fate(THREE, SIX, (3, 10), 29, 2, 0), ("open",))
        self.assertEqual(fate([(1, 1)], SIX, (3, 10), 29, 2, 0), ("stays", 30))

    def test_a_goal_of_nought_and_of_the_unit(self):
        self.assertEqual(fate(THREE, [(1, 1)], (7, 10), 0, 3, 5), ("falls", 1))
        self.assertEqual(fate(THREE, SIX, (7, 10), 1000, 3, 5), ("falls", 0))
        self.assertEqual(fate(THREE, SIX, (1, 1), 1000, 3, 0), ("falls", 0))
        self.assertEqual(fate(THREE, SIX, (7, 10), 0, 3, 50)[0], "stays")

    def test_against_exact_fractions(self):
        drawn = random.Random(84)
        ends = {"falls": 0, "stays": 0, "open": 0}
        for turn in range(300):
            letters = drawn_counts(drawn)
            checks = letters if turn % 10 == 0 else drawn_counts(drawn)
            share = drawn_share(drawn)
            figures = drawn.choice((1, 2, 3, 12))
            unit = 10 ** figures
            goal = drawn.choice((0, 1, unit // 10, drawn.randint(0, unit), unit))
            most = drawn.randint(0, 6)
            told = asked(self, fate, letters, checks, share, goal, figures, most)
            self.assertEqual(told, plain_fate(letters, checks, Fraction(*share), goal, figures, most))
            ends[told[0]] += 1
        self.assertTrue(min(ends.values()) > 10, ends)


class LimitTest(unittest.TestCase):
    def test_the_whole_unit(self):
        self.assertEqual(limit(THREE, SIX, 1000, 3, 0), 1000)
        self.assertEqual(limit(THREE, [(1, 1)], 0, 3, 1), 1000)
        self.assertEqual(limit(THREE, [(1, 1)], 0, 6, 50), 10 ** 6)

    def test_nothing_but_nought(self):
        self.assertEqual(limit(THREE, SIX, 0, 3, 50), 0)
        self.assertEqual(limit([(1, 1)], SIX, 0, 6, 50), 0)
        self.assertEqual(limit(THREE, [(1, 1)], 0, 3, 0), 0)

    def test_the_goal_itself_where_no_step_is_gone(self):
        for goal in (0, 1, 7, 500, 999, 1000):
            self.assertEqual(limit(THREE, SIX, goal, 3, 0), goal)

    def test_held_against_fate_for_each_number_of_parts(self):
        drawn = random.Random(85)
        found = set()
        for turn in range(120):
            letters = drawn_counts(drawn)
            checks = letters if turn % 10 == 0 else drawn_counts(drawn)
            figures = 1 if turn % 6 else 2
            unit = 10 ** figures
            goal = drawn.choice((0, 1, 2, drawn.randint(0, unit)))
            most = drawn.choice((0, 1, 2, 5, 50))
            told = asked(self, limit, letters, checks, goal, figures, most)
            falling = [parts for parts in range(unit + 1)
                       if fate(letters, checks, (parts, unit), goal, figures, most)[0] == "falls"]
            self.assertEqual(falling, list(range(told + 1)))
            if figures == 1:
                found.add(told)
        self.assertTrue(len(found) > 8, found)

    def test_the_greatest_of_six_figures(self):
        for letters, checks, goal, most in itertools.product(
                (THREE, [(2, 4), (3, 5)], GREAT), (SIX, [(4, 1), (5, 1)]), (1, 10, 1000), (1, 7, 50)):
            told = limit(letters, checks, goal, 6, most)
            self.assertEqual(fate(letters, checks, (told, 10 ** 6), goal, 6, most)[0], "falls")
            self.assertNotEqual(fate(letters, checks, (told + 1, 10 ** 6), goal, 6, most)[0], "falls")

    def test_where_three_and_six_are_known_to_end(self):
        # Known of old: with places in three checks and checks of six places 0.4294 may be lost.
        self.assertTrue(425000 < limit(THREE, SIX, 10, 6, 50) < 429400)


if __name__ == "__main__":
    unittest.main()
