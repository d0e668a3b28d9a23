import itertools
import random
import unittest

from tests.drawn import FORTY, asked, drawn_net, drawn_word, holds, lines, small_nets

from fewchecks.nets import crossed, degrees, is_true
from fewchecks.solve import Maker
from fewchecks.votes import calmed, turned, voted, votes

PRIMES = (2, 3, 5, 7, 101, 10 ** 9 + 7, FORTY)
# The three checks of place 0 tell it 0, 0 and what place 3 has.
THREE = (7, 4, [[(0, 1), (1, 1)], [(0, 2), (2, 3)], [(0, 1), (3, 6)]])
# The first check does not hold at 0, 1, 1, and at each place of it just half vote otherwise.
HALF = (5, 3, [[(0, 1), (1, 4)], [(0, 1)], [(1, 1), (2, 4)]])


def with_letter(word, place, letter):
    return word[:place] + [letter] + word[place + 1:]


def broken(net, word):
    return sum(1 for pairs in net[2] if not holds(net[0], pairs, word))


def vote_of(p, pairs, word, place):
    others = sum(factor * word[at] for at, factor in pairs if at != place)
    return -others * pow(dict(pairs)[place], -1, p) % p


def plain_votes(net, word, place):
    p, n, checks = net
    found = [vote_of(p, pairs, word, place) for pairs in checks if place in dict(pairs)]
    return [(letter, found.count(letter)) for letter in sorted(set(found))]


def plain_turned(net, word):
    told, turns = list(word), []
    for place in range(net[1]):
        found = plain_votes(net, word, place)
        many = sum(count for letter, count in found)
        for letter, count in found:
            if letter != word[place] and count > many / 2:
                told[place] = letter
                turns.append((place, word[place], letter))
    return told, turns


def plain_voted(net, word, most):
    rounds = []
    while True:
        if is_true(net, word):
            return word, rounds, ("held",)
        if len(rounds) == most:
            return word, rounds, ("far",)
        told, turns = plain_turned(net, word)
        if not turns:
            return word, rounds, ("stuck",)
        word = told
        rounds.append(turns)


def plain_calmed(net, word):
    p, n, checks = net
    steps = []
    while True:
        found = [(broken(net, with_letter(word, place, letter)), place, letter)
                 for place in range(n) for letter in range(p) if letter != word[place]]
        if not found or min(found)[0] >= broken(net, word):
            return word, steps
        many, place, letter = min(found)
        word = with_letter(word, place, letter)
        steps.append((place, letter, many))


def drawn_cases(seed, turns):
    drawn = random.Random(seed)
    for p in PRIMES:
        for turn in range(turns):
            n = drawn.randint(1, 12)
            net = drawn_net(drawn, p, n, drawn.randint(0, 14), 4)
            yield drawn, net, drawn_word(drawn, p, n, 0)


def true_word(net, drawn):
    maker = Maker(net)
    return maker.made([drawn.randrange(net[0]) for place in maker.free()])


# Wrong letters at some places: of each place either any other letter or, where it goes, the
# same amount added to all.
def spoiled(drawn, p, word, places):
    told = list(word)
    shift = drawn.randrange(1, p)
    alike = drawn.random() < 0.5
    for place in places:
        told[place] = (told[place] + (shift if alike else drawn.randrange(1, p))) % p
    return told


class VotesTest(unittest.TestCase):
    def test_each_check_votes(self):
        self.assertEqual(votes(THREE, [0, 0, 0, 5], 0), [(0, 2), (5, 1)])
        self.assertEqual(votes(THREE, [3, 0, 0, 5], 0), [(0, 2), (5, 1)])
        self.assertEqual(votes(THREE, [0, 6, 3, 1], 0), [(1, 2), (6, 1)])
        self.assertEqual(votes(THREE, [0, 6, 4, 1], 0), [(1, 3)])
        self.assertEqual(votes(THREE, [1, 2, 3, 4], 0), [(4, 1), (5, 1), (6, 1)])

    def test_a_place_of_one_check(self):
        self.assertEqual(votes(THREE, [3, 0, 0, 5], 1), [(4, 1)])
        self.assertEqual(votes(THREE, [3, 4, 0, 5], 1), [(4, 1)])
        self.assertEqual(votes(THREE, [3, 0, 0, 5], 2), [(5, 1)])
        self.assertEqual(votes(THREE, [3, 0, 0, 5], 3), [(3, 1)])

    def test_a_place_in_no_check(self):
        self.assertEqual(votes((7, 2, [[(1, 3)]]), [4, 4], 0), [])
        self.assertEqual(votes((2, 1, []), [1], 0), [])

    def test_a_check_of_one_place_votes_for_nought(self):
        for p in PRIMES:
            for letter in (0, 1, p - 1):
                self.assertEqual(votes((p, 1, [[(0, p - 1)]]), [letter], 0), [(0, 1)])
                self.assertEqual(votes((p, 1, [[(0, p - 1)], [(0, 1)]]), [letter], 0), [(0, 2)])

    def test_p_of_two(self):
        net = (2, 3, [[(0, 1), (1, 1)], [(0, 1), (2, 1)], [(0, 1), (1, 1), (2, 1)]])
        self.assertEqual(votes(net, [0, 0, 1], 0), [(0, 1), (1, 2)])
        self.assertEqual(votes(net, [1, 0, 1], 0), [(0, 1), (1, 2)])
        self.assertEqual(votes(net, [1, 0, 0], 0), [(0, 3)])
        self.assertEqual(votes(net, [1, 1, 0], 2), [(0, 1), (1, 1)])

    def test_p_of_forty_figures(self):
        net = (FORTY, 2, [[(0, 2), (1, FORTY - 4)], [(0, FORTY - 1), (1, 1)], [(0, 1), (1, 1)]])
        self.assertEqual(votes(net, [9, FORTY - 1], 0), [(1, 1), (FORTY - 2, 1), (FORTY - 1, 1)])

    def test_the_letter_makes_the_sum_nought(self):
        for drawn, net in small_nets(61, 60):
            word = drawn_word(drawn, net[0], net[1], 0)
            for place in range(net[1]):
                own = [pairs for pairs in net[2] if place in dict(pairs)]
                wanted = [(letter, sum(1 for pairs in own if holds(net[0], pairs, with_letter(word, place, letter))))
                          for letter in range(net[0])]
                self.assertEqual(asked(self, votes, net, word, place), [pair for pair in wanted if pair[1] > 0])

    def test_drawn_nets(self):
        for drawn, net, word in drawn_cases(62, 20):
            for place in range(net[1]):
                told = asked(self, votes, net, word, place)
                self.assertEqual(told, plain_votes(net, word, place))
                self.assertIs(type(told), list)


class TurnedTest(unittest.TestCase):
    def test_all_places_by_the_word_as_it_stood(self):
        self.assertEqual(turned((7, 2, [[(0, 1), (1, 1)]]), [3, 0]), ([0, 4], [(0, 3, 0), (1, 0, 4)]))
        self.assertEqual(turned(THREE, [3, 0, 0, 0]),
                         ([0, 4, 5, 3], [(0, 3, 0), (1, 0, 4), (2, 0, 5), (3, 0, 3)]))

    def test_more_than_half(self):
        self.assertEqual(turned(THREE, [3, 0, 0, 3])[1], [(0, 3, 0), (1, 0, 4), (2, 0, 5)])
        self.assertEqual(turned(THREE, [1, 2, 3, 4])[1], [(1, 2, 6), (2, 3, 4), (3, 4, 1)])

    def test_just_half_is_not_more_than_half(self):
        net = (5, 3, [[(0, 1), (1, 4)], [(0, 1), (2, 4)]])
        self.assertEqual(turned(net, [1, 1, 3]), ([1, 1, 1], [(2, 3, 1)]))
        self.assertEqual(turned(net, [1, 3, 1]), ([1, 1, 1], [(1, 3, 1)]))
        four = (5, 5, [[(0, 1), (1, 4)], [(0, 1), (2, 4)], [(0, 1), (3, 4)], [(0, 1), (4, 4)]])
        self.assertEqual(turned(four, [0, 1, 1, 0, 0])[1], [(1, 1, 0), (2, 1, 0)])
        self.assertEqual(turned(four, [0, 1, 1, 2, 3])[1], [(1, 1, 0), (2, 1, 0), (3, 2, 0), (4, 3, 0)])
        self.assertEqual(turned(four, [0, 1, 1, 1, 0])[1], [(0, 0, 1), (1, 1, 0), (2, 1, 0), (3, 1, 0)])

    def test_the_most_votes_are_not_enough(self):
        five = (7, 6, [[(0, 1), (place, 6)] for place in range(1, 6)])
        self.assertEqual(turned(five, [0, 1, 1, 2, 3, 4])[0][0], 0)
        self.assertEqual(turned(five, [0, 1, 1, 1, 3, 4])[0][0], 1)

    def test_a_letter_that_most_checks_vote_for_stays(self):
        self.assertEqual(turned(THREE, [0, 0, 0, 5]), ([0, 0, 0, 0], [(3, 5, 0)]))

    def test_a_place_in_one_check(self):
        for p in PRIMES[1:]:
            net = (p, 1, [[(0, 2)]])
            self.assertEqual(turned(net, [p - 1]), ([0], [(0, p - 1, 0)]))
            self.assertEqual(turned(net, [0]), ([0], []))

    def test_a_place_in_no_check_stays(self):
        self.assertEqual(turned((5, 3, [[(1, 1)]]), [4, 3, 2]), ([4, 0, 2], [(1, 3, 0)]))

    def test_where_nothing_turns_the_word_is_a_new_list(self):
        for net in (THREE, (7, 4, [])):
            word = [0, 0, 0, 0]
            told, turns = asked(self, turned, net, word)
            self.assertEqual((told, turns), (word, []))
            self.assertIsNot(told, word)

    def test_drawn_nets(self):
        counts = {True: 0, False: 0}
        for drawn, net, word in drawn_cases(63, 60):
            told = asked(self, turned, net, word)
            self.assertEqual(told, plain_turned(net, word))
            counts[told[1] == []] += 1
        self.assertTrue(min(counts.values()) > 20, counts)

    def test_one_round_makes_the_true_word_of_nets_nowhere_crossed(self):
        drawn = random.Random(64)
        for p, directions in itertools.product((2, 3, 7, FORTY), range(1, 7)):
            net = lines(p, directions)
            self.assertIsNone(crossed(net))
            self.assertEqual(degrees(net)[0], [(directions, 25)])
            for turn in range(12):
                word = true_word(net, drawn)
                places = sorted(drawn.sample(range(25), turn % (directions // 2 + 1)))
                wrong = spoiled(drawn, p, word, places)
                told, turns = asked(self, turned, net, wrong)
                self.assertEqual(told, word)
                self.assertEqual(turns, [(place, wrong[place], word[place]) for place in places])

    def test_any_two_wrong_letters_of_lines_in_four_directions(self):
        net = lines(3, 4)
        word = true_word(net, random.Random(65))
        for first, second in itertools.combinations(range(25), 2):
            for a, b in itertools.product((1, 2), repeat=2):
                wrong = with_letter(word, first, (word[first] + a) % 3)
                wrong[second] = (word[second] + b) % 3
                self.assertEqual(turned(net, wrong)[0], word)


class VotedTest(unittest.TestCase):
    def test_held_ahead_of_any_round(self):
        for most in (0, 1, 400):
            self.assertEqual(voted(THREE, [0, 0, 0, 0], most), ([0, 0, 0, 0], [], ("held",)))
            self.assertEqual(voted((7, 2, []), [3, 4], most), ([3, 4], [], ("held",)))

    def test_held_behind_rounds(self):
        first = [(3, 5, 0)]
        for most in (1, 2, 400):
            self.assertEqual(voted(THREE, [0, 0, 0, 5], most), ([0, 0, 0, 0], [first], ("held",)))

    def test_far_with_most_nought(self):
        self.assertEqual(voted(THREE, [0, 0, 0, 5], 0), ([0, 0, 0, 5], [], ("far",)))
        self.assertEqual(voted((5, 2, [[(0, 1), (1, 1)], [(0, 1), (1, 2)]]), [1, 0], 0), ([1, 0], [], ("far",)))

    def test_to_and_fro_until_most(self):
        for p in PRIMES:
            net = (p, 2, [[(0, 1), (1, 1)]])
            there = [(0, 1, 0), (1, 0, p - 1)]
            back = [(0, 0, 1), (1, p - 1, 0)]
            for most in (0, 1, 2, 3, 8, 399, 400):
                told = asked(self, voted, net, [1, 0], most)
                self.assertEqual(told[0], [1, 0] if most % 2 == 0 else [0, p - 1])
                self.assertEqual(told[1], ([there, back] * most)[:most])
                self.assertEqual(told[2], ("far",))

    def test_stuck(self):
        self.assertEqual(turned(HALF, [0, 1, 1]), ([0, 1, 1], []))
        for most in (1, 2, 400):
            self.assertEqual(voted(HALF, [0, 1, 1], most), ([0, 1, 1], [], ("stuck",)))
        self.assertEqual(voted(HALF, [0, 1, 1], 0), ([0, 1, 1], [], ("far",)))

    def test_stuck_behind_a_round(self):
        net = (5, 4, HALF[2] + [[(3, 2)]])
        for most in (2, 3, 400):
            self.assertEqual(voted(net, [0, 1, 1, 2], most), ([0, 1, 1, 0], [[(3, 2, 0)]], ("stuck",)))
        self.assertEqual(voted(net, [0, 1, 1, 2], 1), ([0, 1, 1, 0], [[(3, 2, 0)]], ("far",)))

    def test_far_is_asked_ahead_of_stuck_and_behind_held(self):
        ends = {"held": 0, "far": 0, "stuck": 0}
        for drawn, net, word in drawn_cases(66, 60):
            whole = plain_voted(net, word, 30)
            many = len(whole[1])
            ends[whole[2][0]] += many > 0
            self.assertEqual(asked(self, voted, net, word, 30), whole)
            self.assertEqual(voted(net, word, many)[2], ("held",) if whole[2] == ("held",) else ("far",))
            self.assertEqual(voted(net, word, many + 1)[2], whole[2])
            for most in range(many):
                told = voted(net, word, most)
                self.assertEqual((told[1], told[2]), (whole[1][:most], ("far",)))
        self.assertTrue(min(ends.values()) > 4, ends)

    def test_great_nets(self):
        drawn = random.Random(67)
        net = drawn_net(drawn, FORTY, 400, 400, 9)
        word = drawn_word(drawn, FORTY, 400, 0)
        self.assertEqual(asked(self, voted, net, word, 3), plain_voted(net, word, 3))


class CalmedTest(unittest.TestCase):
    def test_a_true_word(self):
        for net, word in ((THREE, [0, 0, 0, 0]), ((7, 2, []), [3, 4]), (lines(7, 3), [0] * 25)):
            told = asked(self, calmed, net, word)
            self.assertEqual(told, (word, []))
            self.assertIsNot(told[0], word)

    def test_the_fewest_checks(self):
        self.assertEqual(calmed(THREE, [3, 0, 0, 0]), ([0, 0, 0, 0], [(0, 0, 0)]))
        self.assertEqual(calmed(THREE, [3, 0, 0, 5]), ([0, 0, 0, 0], [(0, 0, 1), (3, 0, 0)]))

    def test_of_several_the_least_place(self):
        net = (5, 4, [[(1, 1), (3, 1)]])
        self.assertEqual(calmed(net, [1, 1, 1, 1]), ([1, 4, 1, 1], [(1, 4, 0)]))

    def test_of_several_the_least_letter(self):
        net = (7, 3, [[(0, 1), (1, 1)], [(0, 1), (2, 1)]])
        self.assertEqual(calmed(net, [0, 2, 3]), ([4, 3, 3], [(0, 4, 1), (1, 3, 0)]))
        self.assertEqual(calmed(net, [0, 3, 2]), ([4, 3, 3], [(0, 4, 1), (2, 3, 0)]))

    def test_the_fewest_ahead_of_the_least_place(self):
        net = (7, 4, [[(0, 1), (3, 1)], [(1, 1), (3, 1)], [(2, 1), (3, 1)]])
        self.assertEqual(calmed(net, [0, 0, 0, 5]), ([0, 0, 0, 0], [(3, 0, 0)]))

    def test_only_as_long_as_it_leaves_fewer(self):
        even = (5, 2, [[(0, 1), (1, 1)], [(0, 1)], [(1, 1)]])
        self.assertEqual(calmed(even, [1, 4]), ([1, 4], []))
        self.assertEqual(calmed(HALF, [0, 1, 1]), ([0, 1, 1], []))
        self.assertEqual(calmed(HALF, [2, 1, 1]), ([0, 1, 1], [(0, 0, 1)]))

    def test_small_nets(self):
        found = []
        for drawn, net in small_nets(68, 120):
            word = drawn_word(drawn, net[0], net[1], 0)
            told = asked(self, calmed, net, word)
            self.assertEqual(told, plain_calmed(net, word))
            found.append(len(told[1]))
        self.assertTrue(max(found) > 2, found)

    def test_words_that_stay_broken(self):
        counts = {True: 0, False: 0}
        for drawn, net, word in drawn_cases(69, 40):
            told, steps = asked(self, calmed, net, word)
            many = broken(net, word)
            for place, letter, behind in steps:
                self.assertNotEqual(word[place], letter)
                word = with_letter(word, place, letter)
                self.assertEqual(behind, broken(net, word))
                self.assertTrue(behind < many)
                many = behind
            self.assertEqual(told, word)
            counts[many == 0] += 1
            for place in range(net[1]):
                for pairs in net[2]:
                    if place in dict(pairs):
                        other = with_letter(word, place, vote_of(net[0], pairs, word, place))
                        self.assertTrue(broken(net, other) >= many)
        self.assertTrue(min(counts.values()) > 10, counts)

    def test_p_of_forty_figures(self):
        net = (FORTY, 3, [[(0, 1), (1, FORTY - 1)], [(0, 1), (2, FORTY - 1)], [(0, 2), (1, FORTY - 2)]])
        self.assertEqual(calmed(net, [FORTY - 1, 5, 6]), ([5, 5, 5], [(0, 5, 1), (2, 5, 0)]))

    def test_a_long_way(self):
        net = (FORTY, 400, [[(place, 3)] for place in range(400)])
        word = [FORTY - 1 - place for place in range(400)]
        told = asked(self, calmed, net, word)
        self.assertEqual(told, ([0] * 400, [(place, 0, 399 - place) for place in range(400)]))


if __name__ == "__main__":
    unittest.main()
