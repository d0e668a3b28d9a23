import copy
import itertools
import random
import unittest

from tests.drawn import FORTY, SIXTY, drawn_net

from fewchecks.nets import crossed, degrees, formed, is_true, seats, sums

SMALL = (7, 5, [[(0, 1), (1, 2), (3, 6)], [(1, 3), (2, 1)], [(3, 4)]])


def drawn_nets(seed):
    drawn = random.Random(seed)
    for p in (2, 3, 4, 6, 7, 101, FORTY, SIXTY):
        for turn in range(25):
            yield drawn, drawn_net(drawn, p, drawn.randint(1, 14), drawn.randint(0, 9), 5)


def great_net(p):
    return (p, 400, [[(place, 1 + (place + c) % (p - 1)) for place in range(c % 5, 400, 80)] for c in range(400)])


class FormedTest(unittest.TestCase):
    def assert_told(self, wanted, net):
        before = copy.deepcopy(net)
        self.assertIs(formed(net), wanted)
        self.assertEqual(net, before)

    def test_ordinary(self):
        self.assert_told(True, SMALL)
        self.assert_told(True, (7, 5, [[(4, 1)]]))

    def test_least(self):
        self.assert_told(True, (2, 1, []))
        self.assert_told(True, (2, 1, [[(0, 1)]]))

    def test_great(self):
        self.assert_told(True, (2, 400, []))
        self.assert_told(True, (2, 400, [[(399, 1)]]))
        self.assert_told(True, (2, 1, [[(0, 1)] for c in range(400)]))
        self.assert_told(True, (3, 400, [[(place, 2) for place in range(400)] for c in range(400)]))

    def test_one_fault_among_many_thousands_of_pairs(self):
        checks = [[(place, 2) for place in range(400)] for c in range(400)]
        checks[399][399] = (399, 3)
        self.assert_told(False, (3, 400, checks))
        self.assert_told(False, (3, 400, [[(place, 1) for place in range(100000)]]))

    def test_p_too_small(self):
        for p in (1, 0, -1, -7, -SIXTY):
            with self.subTest(p):
                self.assert_told(False, (p, 1, []))
                self.assert_told(False, (p, 3, [[(0, 1), (2, 1)]]))

    def test_any_p_from_two_on(self):
        for p in (2, 3, 4, 6, 9, 100, FORTY, 10 ** 41, SIXTY, 10 ** 60, 10 ** 300):
            with self.subTest(p.bit_length()):
                self.assert_told(True, (p, 2, [[(0, 1), (1, p - 1)]]))
                self.assert_told(False, (p, 2, [[(0, 1), (1, p)]]))

    def test_wrong_counts_of_places(self):
        for n in (0, -1, 401, -SIXTY, SIXTY):
            with self.subTest(n):
                self.assert_told(False, (7, n, []))
                self.assert_told(False, (7, n, [[(0, 1)]]))

    def test_too_many_checks(self):
        self.assert_told(False, (7, 1, [[(0, 1)] for c in range(401)]))
        self.assert_told(False, (7, 1, [[(0, 1)] for c in range(5000)]))

    def test_an_empty_check_at_any_number(self):
        for c in range(4):
            checks = copy.deepcopy(SMALL[2])
            checks.insert(c, [])
            with self.subTest(c):
                self.assert_told(False, (7, 5, checks))
        self.assert_told(False, (7, 5, [[]]))

    def test_places_that_do_not_rise(self):
        self.assert_told(False, (7, 5, [[(1, 1), (0, 1)]]))
        self.assert_told(False, (7, 5, [[(0, 1), (3, 1), (2, 1)]]))
        self.assert_told(False, (7, 5, [[(0, 1), (4, 1)], [(0, 1), (3, 1), (1, 1), (4, 1)]]))

    def test_the_same_place_twice(self):
        for place in (0, 2, 4):
            self.assert_told(False, (7, 5, [[(place, 1), (place, 2)]]))
            self.assert_told(False, (7, 5, [[(place, 3), (place, 3)]]))

    def test_places_that_are_not_there(self):
        for place in (-1, -5, 5, 6, SIXTY, -SIXTY):
            with self.subTest(place):
                self.assert_told(False, (7, 5, [[(place, 1)]]))
                self.assert_told(False, (7, 5, [[(0, 1)], [(place, 1)]]))
        self.assert_told(False, (7, 5, [[(-1, 1), (0, 1)]]))
        self.assert_told(False, (7, 5, [[(4, 1), (5, 1)]]))
        self.assert_told(False, (7, 400, [[(400, 1)]]))

    def test_factors(self):
        for factor, wanted in ((1, True), (6, True), (0, False), (7, False), (8, False), (-1, False),
                               (-6, False), (SIXTY, False), (-SIXTY, False)):
            with self.subTest(factor):
                self.assert_told(wanted, (7, 5, [[(2, factor)]]))
                self.assert_told(wanted, (7, 5, [[(0, 1)], [(0, 3), (2, factor), (3, 3)]]))
                self.assert_told(wanted, (7, 5, [[(0, 1), (2, 5), (3, factor)]]))
        self.assert_told(False, (2, 1, [[(0, 2)]]))

    def test_drawn_nets(self):
        for drawn, net in drawn_nets(3):
            self.assert_told(True, net)


class SumsTest(unittest.TestCase):
    def test_ordinary(self):
        self.assertEqual(sums(SMALL, [1, 2, 1, 5, 3]), [(1 + 4 + 30) % 7, 0, 20 % 7])

    def test_lost_letters(self):
        self.assertEqual(sums(SMALL, [None, 2, 1, 5, 3]), [None, 0, 6])
        self.assertEqual(sums(SMALL, [1, None, 1, 5, 3]), [None, None, 6])
        self.assertEqual(sums(SMALL, [1, 2, 1, None, 3]), [None, 0, None])
        self.assertEqual(sums(SMALL, [1, 2, 1, 5, None]), [0, 0, 6])
        self.assertEqual(sums(SMALL, [None] * 5), [None] * 3)

    def test_no_checks(self):
        self.assertEqual(sums((7, 2, []), [1, None]), [])

    def test_no_prime(self):
        self.assertEqual(sums((6, 2, [[(0, 2), (1, 3)]]), [3, 2]), [0])
        self.assertEqual(sums((6, 2, [[(0, 5), (1, 3)]]), [5, 1]), [28 % 6])
        self.assertEqual(sums((SIXTY, 2, [[(0, SIXTY - 1), (1, 1)]]), [1, 0]), [SIXTY - 1])

    def test_drawn_nets(self):
        for drawn, net in drawn_nets(4):
            p, n, checks = net
            word = [None if drawn.random() < 0.2 else drawn.randrange(p) for place in range(n)]
            wanted = []
            for pairs in checks:
                known = all(word[place] is not None for place, factor in pairs)
                wanted.append(sum(factor * word[place] for place, factor in pairs) % p if known else None)
            before = copy.deepcopy((net, word))
            self.assertEqual(sums(net, word), wanted)
            self.assertEqual((net, word), before)

    def test_great_net(self):
        net = great_net(FORTY)
        word = [FORTY - 1 - place for place in range(400)]
        wanted = [sum(factor * word[place] for place, factor in pairs) % FORTY for pairs in net[2]]
        self.assertEqual(sums(net, word), wanted)

    def test_a_new_list_each_time(self):
        word = [1, 2, 1, 5, None]
        first = sums(SMALL, word)
        self.assertIsNot(first, sums(SMALL, word))
        first.clear()
        self.assertEqual(sums(SMALL, word), [0, 0, 6])


class IsTrueTest(unittest.TestCase):
    net = (7, 4, [[(0, 1), (1, 1), (2, 1)], [(1, 2), (2, 3)]])

    def test_a_true_word(self):
        self.assertIs(is_true(self.net, [0, 0, 0, 5]), True)
        self.assertIs(is_true(self.net, [5, 6, 3, 0]), True)

    def test_words_of_one_broken_check(self):
        self.assertIs(is_true(self.net, [1, 2, 4, 5]), False)
        self.assertIs(is_true(self.net, [4, 6, 3, 0]), False)

    def test_just_the_words_whose_checks_hold(self):
        for word in itertools.product(range(7), repeat=3):
            wanted = sum(word) % 7 == 0 and (2 * word[1] + 3 * word[2]) % 7 == 0
            self.assertIs(is_true(self.net, list(word) + [6]), wanted)

    def test_one_letter_wrong(self):
        for place in range(3):
            for letter in range(7):
                word = [5, 6, 3, 0]
                same = word[place] == letter
                word[place] = letter
                self.assertIs(is_true(self.net, word), same)

    def test_one_check_that_does_not_hold(self):
        checks = [[(0, 1)], [(1, 1)], [(2, 1)]]
        for place in range(3):
            word = [0, 0, 0]
            word[place] = 1
            self.assertIs(is_true((2, 3, checks), word), False)

    def test_a_letter_lost(self):
        for place in range(4):
            word = [5, 6, 3, 0]
            word[place] = None
            self.assertIs(is_true(self.net, word), False)

    def test_no_checks(self):
        self.assertIs(is_true((7, 2, []), [3, 6]), True)
        self.assertIs(is_true((7, 2, []), [3, None]), False)
        self.assertIs(is_true((7, 2, []), [None, 0]), False)

    def test_no_prime(self):
        self.assertIs(is_true((6, 2, [[(0, 2), (1, 3)]]), [3, 2]), True)
        self.assertIs(is_true((6, 2, [[(0, 2), (1, 3)]]), [3, 1]), False)
        self.assertIs(is_true((SIXTY, 2, [[(0, SIXTY - 1), (1, 1)]]), [8, 8]), True)

    def test_what_is_handed_in_stays(self):
        net = copy.deepcopy(self.net)
        word = [5, 6, None, 0]
        is_true(net, word)
        self.assertEqual((net, word), (self.net, [5, 6, None, 0]))


class SeatsTest(unittest.TestCase):
    def test_ordinary(self):
        self.assertEqual(seats(SMALL), [[0], [0, 1], [1], [0, 2], []])

    def test_no_checks(self):
        self.assertEqual(seats((7, 1, [])), [[]])
        self.assertEqual(seats((7, 400, [])), [[] for place in range(400)])

    def test_drawn_nets(self):
        for drawn, net in drawn_nets(5):
            p, n, checks = net
            before = copy.deepcopy(net)
            wanted = [[c for c in range(len(checks)) if place in dict(checks[c])] for place in range(n)]
            self.assertEqual(seats(net), wanted)
            self.assertEqual(net, before)

    def test_no_two_lists_are_one(self):
        for net in (SMALL, (7, 5, []), (7, 3, [[(0, 1), (1, 1), (2, 1)]])):
            first = seats(net)
            second = seats(net)
            lists = [first, second] + first + second
            self.assertEqual(len({id(told) for told in lists}), len(lists))

    def test_told_lists_are_the_askers_own(self):
        wanted = seats(SMALL)
        told = seats(SMALL)
        for numbers in told:
            numbers.append(99)
        told.clear()
        self.assertEqual(seats(SMALL), wanted)
        self.assertEqual(degrees(SMALL), ([(0, 1), (1, 2), (2, 2)], [(1, 1), (2, 1), (3, 1)]))


class DegreesTest(unittest.TestCase):
    def test_ordinary(self):
        self.assertEqual(degrees(SMALL), ([(0, 1), (1, 2), (2, 2)], [(1, 1), (2, 1), (3, 1)]))

    def test_degrees_that_none_has(self):
        net = (7, 4, [[(0, 1), (1, 1), (2, 1), (3, 1)], [(0, 1)], [(0, 2)]])
        self.assertEqual(degrees(net), ([(1, 3), (3, 1)], [(1, 2), (4, 1)]))

    def test_no_checks(self):
        self.assertEqual(degrees((7, 1, [])), ([(0, 1)], []))
        self.assertEqual(degrees((7, 400, [])), ([(0, 400)], []))

    def test_degrees_rise_beyond_one_figure(self):
        checks = [[(place, 1) for place in range(12)]] + [[(0, 1), (1, 1)]] + [[(0, 1)] for c in range(8)]
        self.assertEqual(degrees((2, 12, checks)), ([(1, 10), (2, 1), (10, 1)], [(1, 8), (2, 1), (12, 1)]))

    def test_drawn_nets(self):
        for drawn, net in drawn_nets(6):
            p, n, checks = net
            before = copy.deepcopy(net)
            of_places = [sum(place in dict(pairs) for pairs in checks) for place in range(n)]
            of_checks = [len(pairs) for pairs in checks]
            wanted = tuple([(degree, found.count(degree)) for degree in range(20) if degree in found]
                           for found in (of_places, of_checks))
            told = degrees(net)
            self.assertEqual(told, wanted)
            self.assertIsInstance(told, tuple)
            self.assertEqual(net, before)

    def test_told_lists_are_new(self):
        net = (7, 2, [[(0, 1)], [(1, 1)]])
        told = degrees(net)
        self.assertEqual(told, ([(1, 2)], [(1, 2)]))
        self.assertIsNot(told[0], told[1])
        told[0].clear()
        self.assertEqual(told[1], [(1, 2)])
        self.assertEqual(degrees(net), ([(1, 2)], [(1, 2)]))


def plainly_crossed(net):
    checks = net[2]
    for c, d in itertools.combinations(range(len(checks)), 2):
        shared = sorted(set(dict(checks[c])) & set(dict(checks[d])))
        if len(shared) > 1:
            return (c, d, shared[0], shared[1])
    return None


class CrossedTest(unittest.TestCase):
    def test_nowhere_crossed(self):
        self.assertIsNone(crossed(SMALL))
        self.assertIsNone(crossed((7, 3, [])))
        self.assertIsNone(crossed((7, 3, [[(0, 1), (1, 1), (2, 1)]])))
        self.assertIsNone(crossed((7, 3, [[(0, 1), (1, 1)], [(1, 1), (2, 1)], [(0, 1), (2, 1)]])))
        self.assertIsNone(crossed((7, 3, [[(1, 1)], [(1, 1)]])))

    def test_the_same_check_twice(self):
        self.assertEqual(crossed((7, 3, [[(0, 1), (2, 1)], [(0, 1), (2, 1)]])), (0, 1, 0, 2))

    def test_other_factors_are_crossed_too(self):
        self.assertEqual(crossed((7, 3, [[(0, 1), (2, 1)], [(0, 4), (2, 6)]])), (0, 1, 0, 2))

    def test_the_first_two_places_that_both_have(self):
        checks = [[(0, 1), (2, 1), (3, 1), (5, 1), (6, 1)], [(1, 1), (2, 1), (4, 1), (5, 1), (6, 1)]]
        self.assertEqual(crossed((7, 7, checks)), (0, 1, 2, 5))
        self.assertEqual(crossed((7, 7, checks[::-1])), (0, 1, 2, 5))

    def test_the_least_c_goes_ahead_of_the_least_d(self):
        checks = [[(4, 1), (5, 1)], [(0, 1), (1, 1)], [(0, 1), (1, 1)], [(4, 1), (5, 1)]]
        self.assertEqual(crossed((7, 6, checks)), (0, 3, 4, 5))

    def test_the_least_d_of_one_c(self):
        checks = [[(0, 1), (1, 1), (4, 1), (5, 1)], [(2, 1)], [(4, 1), (5, 1)], [(0, 1), (1, 1)]]
        self.assertEqual(crossed((7, 6, checks)), (0, 2, 4, 5))

    def test_the_last_two_checks(self):
        checks = [[(place, 1)] for place in range(398)] + [[(7, 1), (398, 1), (399, 1)], [(398, 1), (399, 1)]]
        self.assertEqual(crossed((7, 400, checks)), (398, 399, 398, 399))

    def test_no_prime_and_great_p(self):
        for p in (2, 4, 6, SIXTY):
            self.assertEqual(crossed((p, 3, [[(0, 1), (2, 1)], [(1, 1)], [(0, 1), (2, 1)]])), (0, 2, 0, 2))

    def test_drawn_nets(self):
        kinds = {True: 0, False: 0}
        for drawn, net in drawn_nets(7):
            before = copy.deepcopy(net)
            told = crossed(net)
            self.assertEqual(told, plainly_crossed(net))
            self.assertEqual(net, before)
            kinds[told is None] += 1
        self.assertTrue(min(kinds.values()) > 20, kinds)

    def test_great_net(self):
        net = great_net(7)
        self.assertEqual(crossed(net), (0, 5, 0, 80))
        lines = [[(row * 20 + column, 1) for column in range(20)] for row in range(20)]
        columns = [[(row * 20 + column, 1) for row in range(20)] for column in range(20)]
        self.assertIsNone(crossed((7, 400, lines + columns)))


if __name__ == "__main__":
    unittest.main()
