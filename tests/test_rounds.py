import copy
import itertools
import random
import unittest

from tests.drawn import FORTY, SIXTY, drawn_net, drawn_word, holds, lines, small_nets, true_words

from fewchecks.errors import NetError, NoLetter, NoPlace
from fewchecks.lots import greatest
from fewchecks.nets import crossed, degrees, is_true, sums
from fewchecks.rounds import Mender, mended, told_by
from fewchecks.solve import Maker

PRIMES = (2, 3, 5, 7, 101, 10 ** 9 + 7, 10 ** 39 + 3, FORTY)
SMALL = (7, 5, [[(0, 1), (1, 2), (3, 6)], [(1, 3), (2, 1)], [(3, 4)]])


def chain(p, n):
    return (p, n, [[(place, 1), (place + 1, p - 1)] for place in range(n - 1)])


def plain_round(net, word):
    p, n, checks = net
    found = []
    for place in range(n):
        for c, pairs in enumerate(checks):
            if [at for at, factor in pairs if word[at] is None] == [place]:
                rest = sum(factor * word[at] for at, factor in pairs if at != place)
                found.append((place, c, -rest * pow(dict(pairs)[place], -1, p) % p))
                break
    return found


def plain_mend(net, word):
    word = list(word)
    rounds = []
    while plain_round(net, word):
        rounds.append(plain_round(net, word))
        for place, c, letter in rounds[-1]:
            word[place] = letter
    return word, rounds


def drawn_cases(seed, turns):
    drawn = random.Random(seed)
    for p in PRIMES:
        for turn in range(turns):
            n = drawn.randint(1, 14)
            net = drawn_net(drawn, p, n, drawn.randint(0, 12), 5)
            yield drawn, net, drawn_word(drawn, p, n, drawn.choice((0, 0.2, 0.4, 0.7, 1)))


class ToldByTest(unittest.TestCase):
    def test_no_lost_letter(self):
        self.assertIsNone(told_by(SMALL, [1, 2, 1, 5, 3], 0))
        self.assertIsNone(told_by(SMALL, [0, 0, 0, 0, 0], 2))

    def test_one_lost_letter(self):
        self.assertEqual(told_by(SMALL, [None, 2, 1, 5, 3], 0), (0, 1))
        self.assertEqual(told_by(SMALL, [1, None, 1, 5, 3], 0), (1, 2))
        self.assertEqual(told_by(SMALL, [1, 2, 1, None, 3], 0), (3, 5))
        self.assertEqual(told_by(SMALL, [1, None, 1, 5, 3], 1), (1, 2))
        self.assertEqual(told_by(SMALL, [1, 2, None, 5, 3], 1), (2, 1))

    def test_two_or_more_lost_letters(self):
        self.assertIsNone(told_by(SMALL, [None, None, 1, 5, 3], 0))
        self.assertIsNone(told_by(SMALL, [1, None, 1, None, 3], 0))
        self.assertIsNone(told_by(SMALL, [None, None, 1, None, 3], 0))
        self.assertIsNone(told_by(SMALL, [None] * 5, 1))

    def test_lost_letters_at_places_that_the_check_has_not(self):
        self.assertIsNone(told_by(SMALL, [1, 2, None, 5, None], 0))
        self.assertEqual(told_by(SMALL, [None, 2, None, 5, None], 0), (0, 1))
        self.assertIsNone(told_by(SMALL, [None, 2, 1, None, None], 1))
        self.assertEqual(told_by(SMALL, [None, 2, None, None, None], 1), (2, 1))

    def test_a_check_of_one_place_tells_nought(self):
        for p in PRIMES:
            self.assertEqual(told_by((p, 2, [[(1, p - 1)]]), [None, None], 0), (1, 0))
            self.assertIsNone(told_by((p, 2, [[(1, 1)]]), [None, p - 1], 0))

    def test_all_factors_and_letters_of_small_primes(self):
        for p in (2, 3, 5, 7):
            for a, b, letter in itertools.product(range(1, p), range(1, p), range(p)):
                net = (p, 2, [[(0, a), (1, b)]])
                place, told = told_by(net, [letter, None], 0)
                self.assertEqual((place, (a * letter + b * told) % p), (1, 0))
                self.assertTrue(0 <= told < p)
                place, told = told_by(net, [None, letter], 0)
                self.assertEqual((place, (a * told + b * letter) % p), (0, 0))
                self.assertTrue(0 <= told < p)

    def test_drawn_nets(self):
        counts = {0: 0, 1: 0, 2: 0}
        for drawn, net, word in drawn_cases(11, 25):
            before = copy.deepcopy((net, word))
            for c, pairs in enumerate(net[2]):
                lost = [place for place, factor in pairs if word[place] is None]
                told = told_by(net, word, c)
                counts[min(len(lost), 2)] += 1
                if len(lost) != 1:
                    self.assertIsNone(told)
                else:
                    self.assertIs(type(told), tuple)
                    self.assertEqual(told[0], lost[0])
                    self.assertTrue(type(told[1]) is int and 0 <= told[1] < net[0])
                    self.assertTrue(holds(net[0], pairs, [told[1] if x is None else x for x in word]))
            self.assertEqual((net, word), before)
        self.assertTrue(min(counts.values()) > 100, counts)


class StepTest(unittest.TestCase):
    def test_all_by_the_word_as_it_stood(self):
        mender = Mender(chain(7, 4), [3, None, None, None])
        self.assertEqual(mender.step(), [(1, 0, 3)])
        self.assertEqual(mender.word(), [3, 3, None, None])
        self.assertEqual(mender.step(), [(2, 1, 3)])
        self.assertEqual(mender.step(), [(3, 2, 3)])
        self.assertEqual(mender.step(), [])
        self.assertEqual(mender.word(), [3, 3, 3, 3])

    def test_from_both_ends_at_once(self):
        mender = Mender(chain(7, 5), [3, None, None, None, 5])
        self.assertEqual(mender.step(), [(1, 0, 3), (3, 3, 5)])
        self.assertEqual(mender.word(), [3, 3, None, 5, 5])
        self.assertEqual(mender.step(), [(2, 1, 3)])
        self.assertEqual(mender.word(), [3, 3, 3, 5, 5])

    def test_the_least_check_that_tells_a_place(self):
        net = (7, 3, [[(0, 1), (1, 1), (2, 1)], [(1, 1), (2, 1)], [(0, 1), (2, 1)], [(2, 3)]])
        self.assertEqual(Mender(net, [1, 2, None]).step(), [(2, 0, 4)])
        self.assertEqual(Mender(net, [None, 2, None]).step(), [(2, 1, 5)])
        self.assertEqual(Mender(net, [1, None, None]).step(), [(2, 2, 6)])
        self.assertEqual(Mender(net, [None, None, None]).step(), [(2, 3, 0)])

    def test_the_places_rise_and_not_the_checks(self):
        net = (5, 4, [[(3, 1)], [(1, 2), (2, 1)], [(0, 4)]])
        mender = Mender(net, [None, None, 1, None])
        self.assertEqual(mender.step(), [(0, 2, 0), (1, 1, 2), (3, 0, 0)])
        self.assertEqual(mender.word(), [0, 2, 1, 0])

    def test_an_empty_round(self):
        for net, word in ((SMALL, [1, 2, 1, 5, 3]), (SMALL, [1, 2, 1, 5, None]), ((7, 2, []), [None, 1]),
                          ((7, 2, [[(0, 1), (1, 1)]]), [None, None])):
            mender = Mender(net, word)
            self.assertEqual(mender.step(), [])
            self.assertEqual(mender.word(), word)

    def test_letters_that_are_known_stay_where_checks_do_not_hold(self):
        net = (7, 3, [[(0, 1), (1, 1)], [(1, 1), (2, 1)]])
        mender = Mender(net, [1, 1, None])
        self.assertEqual(mender.step(), [(2, 1, 6)])
        self.assertEqual(mender.word(), [1, 1, 6])

    def test_drawn_nets(self):
        lengths = {}
        for drawn, net, word in drawn_cases(12, 25):
            mender = Mender(net, word)
            wanted = plain_round(net, word)
            told = mender.step()
            self.assertEqual(told, wanted)
            self.assertIs(type(told), list)
            self.assertTrue(all(type(part) is tuple for part in told))
            behind = list(word)
            for place, c, letter in wanted:
                behind[place] = letter
            self.assertEqual(mender.word(), behind)
            lengths[len(told)] = lengths.get(len(told), 0) + 1
        self.assertTrue(len(lengths) > 4, lengths)

    def test_a_told_list_is_the_askers_own(self):
        mender = Mender(chain(7, 4), [3, None, None, None])
        told = mender.step()
        told.append((0, 0, 0))
        self.assertEqual(mender.step(), [(2, 1, 3)])
        self.assertEqual(mender.word(), [3, 3, 3, None])


class MendTest(unittest.TestCase):
    def test_rounds_until_one_has_none(self):
        mender = Mender(chain(7, 5), [None, None, 4, None, None])
        self.assertEqual(mender.mend(), [[(1, 1, 4), (3, 2, 4)], [(0, 0, 4), (4, 3, 4)]])
        self.assertEqual(mender.word(), [4] * 5)
        self.assertEqual(mender.lost(), [])
        self.assertEqual(mender.mend(), [])

    def test_no_round(self):
        for net, word in ((SMALL, [1, 2, 1, 5, 3]), (SMALL, [1, 2, 1, 5, None]), ((7, 2, []), [None, 1])):
            mender = Mender(net, word)
            self.assertEqual(mender.mend(), [])
            self.assertEqual(mender.word(), word)
            self.assertEqual(mended(net, word), (word, []))

    def test_behind_a_step(self):
        mender = Mender(chain(7, 5), [2, None, None, None, None])
        mender.step()
        self.assertEqual(mender.mend(), [[(2, 1, 2)], [(3, 2, 2)], [(4, 3, 2)]])

    def test_a_long_chain(self):
        for p in (2, FORTY):
            net = chain(p, 400)
            word, rounds = mended(net, [p - 1] + [None] * 399)
            self.assertEqual(rounds, [[(place + 1, place, p - 1)] for place in range(399)])
            self.assertEqual(word, [p - 1] * 400)

    def test_a_long_chain_from_its_end(self):
        word, rounds = mended(chain(7, 400), [None] * 399 + [5])
        self.assertEqual(rounds, [[(place, place, 5)] for place in range(398, -1, -1)])
        self.assertEqual(word, [5] * 400)

    def test_letters_that_stay_lost(self):
        net = (7, 5, [[(0, 1), (1, 1)], [(1, 1), (2, 1)], [(0, 1), (2, 1), (3, 1)]])
        mender = Mender(net, [None, None, None, 3, None])
        self.assertEqual(mender.mend(), [])
        self.assertEqual(mender.lost(), [0, 1, 2, 4])
        word, rounds = mended(net, [None, 2, None, None, None])
        self.assertEqual(rounds, [[(0, 0, 5), (2, 1, 5)], [(3, 2, 4)]])
        self.assertEqual(word, [5, 2, 5, 4, None])

    def test_drawn_nets(self):
        for drawn, net, word in drawn_cases(13, 25):
            before = copy.deepcopy((net, word))
            wanted = plain_mend(net, word)
            mender = Mender(net, word)
            told = mender.mend()
            self.assertEqual((mender.word(), told), wanted)
            self.assertEqual(mender.lost(), [place for place in range(net[1]) if wanted[0][place] is None])
            self.assertEqual(mended(net, word), wanted)
            self.assertIs(type(mended(net, word)), tuple)
            self.assertNotIn([], told)
            self.assertEqual((net, word), before)

    def test_mended_tells_new_lists(self):
        net = chain(7, 3)
        word = [None, 1, None]
        told, rounds = mended(net, word)
        self.assertIsNot(told, word)
        self.assertIsNot(mended(net, [1, 1, 1])[0], word)
        whole = [1, 1, 1]
        self.assertIsNot(mended(net, whole)[0], whole)
        self.assertEqual(word, [None, 1, None])

    def test_true_letters_alone_and_the_greatest_lot_is_left(self):
        mends = 0
        for drawn, net in small_nets(14, 40):
            p, n, checks = net
            word = drawn.choice(true_words(net))
            lost = sorted(drawn.sample(range(n), drawn.randint(0, n)))
            torn = [None if place in lost else letter for place, letter in enumerate(word)]
            left = greatest(net, lost)
            wanted = [None if place in left else letter for place, letter in enumerate(word)]
            self.assertEqual(mended(net, torn)[0], wanted)
            mends += len(lost) - len(left)
            shuffled = list(checks)
            drawn.shuffle(shuffled)
            self.assertEqual(mended((p, n, shuffled), torn)[0], wanted)
        self.assertTrue(mends > 50, mends)

    def test_as_many_lost_letters_as_checks_at_each_place_come_back_in_one_round(self):
        drawn = random.Random(15)
        for p in (2, 7, FORTY):
            for many in range(1, 7):
                net = lines(p, many)
                self.assertIsNone(crossed(net))
                self.assertEqual(degrees(net)[0], [(many, 25)])
                maker = Maker(net)
                word = maker.made([drawn.randrange(p) for place in maker.free()])
                self.assertTrue(is_true(net, word))
                for turn in range(40):
                    lost = sorted(drawn.sample(range(25), many))
                    mender = Mender(net, [None if place in lost else word[place] for place in range(25)])
                    self.assertEqual([(place, letter) for place, c, letter in mender.step()],
                                     [(place, word[place]) for place in lost])


class DeedsTest(unittest.TestCase):
    def test_lose(self):
        mender = Mender(SMALL, [1, 2, 1, 5, 3])
        self.assertIsNone(mender.lose(1))
        self.assertEqual(mender.word(), [1, None, 1, 5, 3])
        self.assertIsNone(mender.lose(4))
        self.assertEqual(mender.lost(), [1, 4])
        self.assertIsNone(mender.lose(0))
        self.assertEqual(mender.lost(), [0, 1, 4])

    def test_a_place_lost_twice(self):
        mender = Mender(SMALL, [1, 2, 1, 5, None])
        mender.lose(4)
        mender.lose(0)
        self.assertIsNone(mender.lose(0))
        self.assertEqual(mender.word(), [None, 2, 1, 5, None])
        self.assertEqual(mender.lost(), [0, 4])

    def test_put(self):
        mender = Mender(SMALL, [None, 2, None, 5, 3])
        self.assertIsNone(mender.put(0, 6))
        self.assertIsNone(mender.put(2, 0))
        self.assertEqual(mender.word(), [6, 2, 0, 5, 3])
        self.assertEqual(mender.lost(), [])

    def test_put_where_it_is_known(self):
        mender = Mender(SMALL, [1, 2, 1, 5, 3])
        mender.put(4, 0)
        mender.put(0, 6)
        mender.put(0, 6)
        self.assertEqual(mender.word(), [6, 2, 1, 5, 0])

    def test_rounds_go_by_what_was_done(self):
        mender = Mender(SMALL, [1, 2, 1, 0, 3])
        mender.lose(3)
        self.assertEqual(mender.step(), [(3, 0, 5)])
        mender.lose(3)
        mender.lose(0)
        self.assertEqual(mender.mend(), [[(3, 2, 0)], [(0, 0, 3)]])
        mender.lose(2)
        mender.put(1, 6)
        self.assertEqual(mender.mend(), [[(2, 1, 3)]])
        self.assertEqual(mender.word(), [3, 6, 3, 0, 3])

    def refused(self, mender, error, deed, arguments):
        before = (mender.word(), mender.lost())
        with self.assertRaises(error) as caught:
            deed(*arguments)
        self.assertIs(type(caught.exception), error)
        self.assertIsInstance(caught.exception, NetError)
        self.assertEqual((mender.word(), mender.lost()), before)

    def test_places_that_are_not_there(self):
        for place in (-1, -2, -5, -6, 5, 6, 400, SIXTY, -SIXTY, 10 ** 5000, -10 ** 5000):
            for word in ([1, 2, 1, 5, 3], [None] * 5):
                mender = Mender(SMALL, word)
                self.refused(mender, NoPlace, mender.lose, (place,))
                for letter in (0, 3, 6, 7, -1, SIXTY, -SIXTY, 10 ** 5000):
                    self.refused(mender, NoPlace, mender.put, (place, letter))

    def test_letters_that_are_none(self):
        for letter in (-1, -6, -7, 7, 8, SIXTY, -SIXTY, 10 ** 5000, -10 ** 5000):
            for word in ([1, 2, 1, 5, 3], [None] * 5):
                mender = Mender(SMALL, word)
                for place in (0, 2, 4):
                    self.refused(mender, NoLetter, mender.put, (place, letter))

    def test_the_letters_at_the_edge(self):
        for p in PRIMES:
            mender = Mender((p, 1, []), [None])
            for letter in (0, p - 1):
                mender.put(0, letter)
                self.assertEqual(mender.word(), [letter])
            self.refused(mender, NoLetter, mender.put, (0, p))
            self.refused(mender, NoLetter, mender.put, (0, -1))
            self.refused(mender, NoPlace, mender.put, (1, 0))

    def test_the_rounds_behind_a_refusal(self):
        mender = Mender(chain(7, 3), [2, None, None])
        self.refused(mender, NoPlace, mender.lose, (3,))
        self.refused(mender, NoLetter, mender.put, (2, 7))
        self.assertEqual(mender.mend(), [[(1, 0, 2)], [(2, 1, 2)]])

    def test_new_lists_at_each_asking(self):
        mender = Mender(SMALL, [None, 2, 1, 5, None])
        word = mender.word()
        lost = mender.lost()
        self.assertIsNot(word, mender.word())
        self.assertIsNot(lost, mender.lost())
        word[0] = 4
        word.pop()
        lost.clear()
        self.assertEqual(mender.word(), [None, 2, 1, 5, None])
        self.assertEqual(mender.lost(), [0, 4])
        self.assertEqual(mender.step(), [(0, 0, 1)])

    def test_what_is_handed_in_stays(self):
        net = copy.deepcopy(SMALL)
        word = [None, 2, 1, 5, 3]
        mender = Mender(net, word)
        mender.mend()
        mender.lose(1)
        mender.put(4, 6)
        self.assertEqual(net, SMALL)
        self.assertEqual(word, [None, 2, 1, 5, 3])

    def test_what_is_done_to_what_was_handed_in_changes_nothing(self):
        for change in (lambda net: net[2].clear(), lambda net: net[2].append([(0, 1)]),
                       lambda net: net[2][0].clear(), lambda net: net[2][0].append((4, 1)),
                       lambda net: net[2][0].__setitem__(0, (0, 3)), lambda net: net[2].reverse()):
            net = copy.deepcopy(SMALL)
            word = [None, 2, 1, 5, 3]
            mender = Mender(net, word)
            change(net)
            word[1] = None
            word.append(1)
            self.assertEqual(mender.word(), [None, 2, 1, 5, 3])
            self.assertEqual(mender.lost(), [0])
            self.assertEqual(mender.step(), [(0, 0, 1)])
            self.assertEqual(word, [None, None, 1, 5, 3, 1])

    def test_two_menders_of_one_net_and_word(self):
        word = [None, 2, 1, 5, 3]
        one = Mender(SMALL, word)
        other = Mender(SMALL, word)
        one.put(0, 6)
        one.lose(2)
        self.assertEqual(other.word(), [None, 2, 1, 5, 3])
        self.assertEqual(other.mend(), [[(0, 0, 1)]])
        self.assertEqual(one.word(), [6, 2, None, 5, 3])

    def test_drawn_deeds(self):
        for drawn, net, word in drawn_cases(16, 6):
            p, n, checks = net
            mender = Mender(net, word)
            own = list(word)
            for turn in range(25):
                deed = drawn.choice(("step", "mend", "lose", "lose", "put"))
                place = drawn.randrange(n)
                if deed == "step":
                    found = plain_round(net, own)
                    self.assertEqual(mender.step(), found)
                    for at, c, letter in found:
                        own[at] = letter
                elif deed == "mend":
                    own, rounds = plain_mend(net, own)
                    self.assertEqual(mender.mend(), rounds)
                elif deed == "lose":
                    own[place] = None
                    mender.lose(place)
                else:
                    own[place] = drawn.randrange(p)
                    mender.put(place, own[place])
                self.assertEqual(mender.word(), own)
                self.assertEqual(mender.lost(), [at for at in range(n) if own[at] is None])
            self.assertEqual(sums(net, mender.word()), sums(net, own))


if __name__ == "__main__":
    unittest.main()
