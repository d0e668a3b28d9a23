import copy
import itertools
import random
import unittest

from tests.drawn import FORTY, drawn_net

from fewchecks.lots import bared, greatest, holds_out, is_bare, least, lots_of

# Three places in a ring, a tail of two that comes off, and a place that no check has.
RING = (7, 6, [[(0, 1), (1, 2)], [(1, 1), (2, 1)], [(0, 3), (2, 1), (3, 1)], [(3, 1), (4, 2)]])


def plainly_holds(net, lot):
    return all(len(set(dict(pairs)) & set(lot)) != 1 for pairs in net[2])


def lots_within(lot):
    return [list(part) for size in range(len(lot) + 1) for part in itertools.combinations(lot, size)]


def plain_greatest(net, lot):
    return sorted({place for part in lots_within(lot) if plainly_holds(net, part) for place in part})


def plainly_bare(net, lot):
    return [part for part in lots_within(lot) if plainly_holds(net, part)] == [[], lot]


def plain_bared(net, lot):
    left = lot
    for place in lot:
        if place in left:
            within = plain_greatest(net, [other for other in left if other != place])
            left = within or left
    return left


def drawn_nets(seed, turns, most_places):
    drawn = random.Random(seed)
    for p in (2, 3, 7, FORTY):
        for turn in range(turns):
            n = drawn.randint(1, most_places)
            yield drawn, drawn_net(drawn, p, n, drawn.randint(0, 9), drawn.randint(1, 4))


def ring(n):
    checks = [[(place, 1), (place + 1, 1)] for place in range(n - 1)] + [[(0, 1), (n - 1, 1)]]
    return (7, n, checks)


def chain(n):
    return (7, n, ring(n)[2][:-1])


class HoldsOutTest(unittest.TestCase):
    def test_ordinary(self):
        for lot, wanted in (([0, 1, 2], True), ([0], False), ([0, 1], False), ([0, 2], False), ([0, 1, 2, 3], False),
                            ([0, 1, 2, 3, 4], True), ([3, 4], False), ([5], True), ([0, 1, 2, 5], True),
                            ([3, 5], False), ([0, 1, 2, 3, 4, 5], True)):
            self.assertIs(holds_out(RING, lot), wanted, lot)

    def test_the_empty_lot(self):
        for net in (RING, (7, 3, []), (2, 1, [[(0, 1)]])):
            self.assertIs(holds_out(net, []), True)

    def test_no_checks(self):
        for lot in lots_within([0, 1, 2, 3]):
            self.assertIs(holds_out((7, 4, []), lot), True)

    def test_a_check_of_one_place(self):
        net = (7, 2, [[(0, 1), (1, 1)], [(1, 5)]])
        self.assertIs(holds_out(net, [0, 1]), False)

    def test_three_places_of_a_check(self):
        self.assertIs(holds_out((7, 3, [[(0, 1), (1, 1), (2, 1)]]), [0, 1, 2]), True)

    def test_all_lots_of_small_nets(self):
        for drawn, net in drawn_nets(21, 12, 7):
            before = copy.deepcopy(net)
            for lot in lots_within(list(range(net[1]))):
                handed = list(lot)
                self.assertIs(holds_out(net, handed), plainly_holds(net, lot))
                self.assertEqual(handed, lot)
            self.assertEqual(net, before)

    def test_great_nets(self):
        self.assertIs(holds_out(ring(400), list(range(400))), True)
        self.assertIs(holds_out(ring(400), list(range(399))), False)


class GreatestTest(unittest.TestCase):
    def test_ordinary(self):
        for lot, wanted in (([0, 1, 2, 3], [0, 1, 2]), ([0, 1, 2, 4], [0, 1, 2]), ([0, 1, 3, 4, 5], [5]),
                            ([0, 1, 2, 3, 4, 5], [0, 1, 2, 3, 4, 5]), ([1, 2, 3, 4], []), ([5], [5]),
                            ([0, 1, 2, 5], [0, 1, 2, 5])):
            self.assertEqual(greatest(RING, lot), wanted, lot)

    def test_the_empty_lot(self):
        for net in (RING, (7, 3, [])):
            self.assertEqual(greatest(net, []), [])

    def test_no_checks(self):
        for lot in lots_within([0, 1, 2, 3]):
            self.assertEqual(greatest((7, 4, []), lot), lot)

    def test_two_checks_that_have_one_place_alone(self):
        net = (7, 4, [[(0, 1)], [(0, 2)], [(0, 1), (1, 1)], [(1, 1), (2, 1), (3, 1)]])
        self.assertEqual(greatest(net, [0, 1, 2, 3]), [2, 3])
        self.assertEqual(greatest(net, [0, 1, 2]), [])

    def test_all_lots_of_small_nets(self):
        sizes = {}
        for drawn, net in drawn_nets(22, 12, 6):
            before = copy.deepcopy(net)
            for lot in lots_within(list(range(net[1]))):
                handed = list(lot)
                told = greatest(net, handed)
                self.assertEqual(told, plain_greatest(net, lot))
                self.assertTrue(plainly_holds(net, told))
                self.assertEqual(handed, lot)
                self.assertIsNot(told, handed)
                kind = (len(told) > 0, len(told) < len(lot))
                sizes[kind] = sizes.get(kind, 0) + 1
            self.assertEqual(net, before)
        self.assertTrue(min(sizes.values()) > 40 and len(sizes) == 4, sizes)

    def test_lots_within_lots(self):
        for drawn, net in drawn_nets(23, 30, 14):
            lot = sorted(drawn.sample(range(net[1]), drawn.randint(0, net[1])))
            part = sorted(drawn.sample(lot, drawn.randint(0, len(lot))))
            told = greatest(net, lot)
            self.assertTrue(set(greatest(net, part)) <= set(told) <= set(lot))
            self.assertEqual(greatest(net, told), told)
            self.assertIs(holds_out(net, told), True)

    def test_a_new_list(self):
        lot = [0, 1, 2]
        told = greatest(RING, lot)
        told.clear()
        self.assertEqual(lot, [0, 1, 2])
        self.assertEqual(greatest(RING, lot), [0, 1, 2])

    def test_great_nets(self):
        whole = list(range(400))
        self.assertEqual(greatest(ring(400), whole), whole)
        self.assertEqual(greatest(ring(400), whole[1:]), [])
        self.assertEqual(greatest(chain(400), whole), whole)
        self.assertEqual(greatest((7, 400, chain(400)[2] + [[(0, 1)]]), whole), [])
        self.assertEqual(greatest((7, 400, [[(399, 1)]] + chain(400)[2]), whole), [])


class IsBareTest(unittest.TestCase):
    def test_ordinary(self):
        for lot, wanted in (([0, 1, 2], True), ([5], True), ([0, 1, 2, 5], False), ([0, 1, 2, 3, 4], False)):
            self.assertIs(is_bare(RING, lot), wanted, lot)

    def test_lots_that_do_not_hold_out(self):
        for lot in ([0], [0, 1], [3, 4], [0, 1, 2, 3], [4, 5]):
            self.assertIs(is_bare(RING, lot), False)

    def test_a_lot_without_another_within_that_does_not_hold_out_itself(self):
        self.assertIs(is_bare((7, 2, [[(0, 1)]]), [0]), False)
        self.assertIs(is_bare((7, 2, [[(0, 1)], [(0, 1), (1, 1)]]), [0, 1]), False)

    def test_the_empty_lot(self):
        for net in (RING, (7, 3, [])):
            self.assertIs(is_bare(net, []), False)

    def test_no_checks(self):
        self.assertIs(is_bare((7, 3, []), [1]), True)
        self.assertIs(is_bare((7, 3, []), [0, 1]), False)

    def test_all_lots_of_small_nets(self):
        kinds = {True: 0, False: 0}
        for drawn, net in drawn_nets(24, 24, 6):
            before = copy.deepcopy(net)
            for lot in lots_within(list(range(net[1]))):
                handed = list(lot)
                told = is_bare(net, handed)
                self.assertIs(told, plainly_bare(net, lot))
                self.assertEqual(handed, lot)
                kinds[told] += 1
            self.assertEqual(net, before)
        self.assertTrue(min(kinds.values()) > 50, kinds)

    def test_great_nets(self):
        whole = list(range(400))
        self.assertIs(is_bare(ring(400), whole), True)
        self.assertIs(is_bare((7, 400, ring(399)[2]), whole), False)
        self.assertIs(is_bare(chain(400), whole), True)


class BaredTest(unittest.TestCase):
    def test_ordinary(self):
        self.assertEqual(bared(RING, [0, 1, 2]), [0, 1, 2])
        self.assertEqual(bared(RING, [0, 1, 2, 3, 4]), [0, 1, 2])
        self.assertEqual(bared(RING, [5]), [5])

    def test_the_places_are_gone_through_rising(self):
        self.assertEqual(bared(RING, [0, 1, 2, 5]), [5])
        self.assertEqual(bared((7, 4, []), [0, 1, 3]), [3])
        pairs_of_two = (7, 4, [[(0, 1), (3, 1)], [(1, 1), (2, 1)]])
        self.assertEqual(bared(pairs_of_two, [0, 1, 2, 3]), [1, 2])

    def test_of_small_nets(self):
        kinds = {}
        for drawn, net in drawn_nets(25, 12, 6):
            before = copy.deepcopy(net)
            for lot in lots_within(list(range(net[1])))[1:]:
                if plainly_holds(net, lot):
                    handed = list(lot)
                    told = bared(net, handed)
                    self.assertEqual(told, plain_bared(net, lot))
                    self.assertTrue(plainly_bare(net, told))
                    self.assertEqual(handed, lot)
                    self.assertIsNot(told, handed)
                    kinds[len(lot) - len(told)] = kinds.get(len(lot) - len(told), 0) + 1
            self.assertEqual(net, before)
        self.assertTrue(len(kinds) > 3, kinds)

    def test_of_greater_nets(self):
        for drawn, net in drawn_nets(26, 30, 16):
            lot = greatest(net, list(range(net[1])))
            if lot:
                told = bared(net, lot)
                self.assertIs(is_bare(net, told), True)
                self.assertTrue(set(told) <= set(lot))

    def test_great_nets(self):
        whole = list(range(400))
        self.assertEqual(bared(ring(400), whole), whole)
        self.assertEqual(bared((7, 400, ring(399)[2]), whole), [399])
        self.assertEqual(bared((7, 400, []), whole), [399])


class LotsOfTest(unittest.TestCase):
    def test_ordinary(self):
        self.assertEqual(lots_of(RING, 0), [[]])
        self.assertEqual(lots_of(RING, 1), [[5]])
        self.assertEqual(lots_of(RING, 2), [])
        self.assertEqual(lots_of(RING, 3), [[0, 1, 2]])
        self.assertEqual(lots_of(RING, 4), [[0, 1, 2, 5]])

    def test_no_checks(self):
        for size in range(5):
            wanted = [list(lot) for lot in itertools.combinations(range(20), size)]
            self.assertEqual(lots_of((7, 20, []), size), wanted)

    def test_sizes_beyond_the_places(self):
        for size in (2, 3, 4):
            self.assertEqual(lots_of((7, 1, []), size), [])
        self.assertEqual(lots_of((7, 1, []), 1), [[0]])
        self.assertEqual(lots_of((7, 1, [[(0, 1)]]), 1), [])

    def test_the_order_of_their_rows(self):
        net = (2, 12, [[(1, 1), (10, 1)], [(2, 1), (11, 1)], [(3, 1), (9, 1)]])
        wanted = [[0, 4], [0, 5], [0, 6], [0, 7], [0, 8], [1, 10], [2, 11], [3, 9], [4, 5]]
        self.assertEqual(lots_of(net, 2)[:9], wanted)

    def test_small_nets_against_all_lots(self):
        found = {size: 0 for size in range(5)}
        for drawn, net in drawn_nets(27, 12, 8):
            before = copy.deepcopy(net)
            for size in range(5):
                wanted = [list(lot) for lot in itertools.combinations(range(net[1]), size) if plainly_holds(net, lot)]
                told = lots_of(net, size)
                self.assertEqual(told, wanted)
                self.assertEqual(told, sorted(told))
                self.assertTrue(all(type(lot) is list for lot in told))
                found[size] += len(told)
            self.assertEqual(net, before)
        self.assertTrue(min(found.values()) > 20, found)

    def test_the_greatest_that_is_asked(self):
        drawn = random.Random(28)
        for most in (3, 6, 20):
            net = drawn_net(drawn, 7, 20, 60, most)
            wanted = [list(lot) for lot in itertools.combinations(range(20), 4) if plainly_holds(net, lot)]
            self.assertEqual(lots_of(net, 4), wanted)
        all_places = (7, 20, [[(place, 1) for place in range(20)] for c in range(60)])
        self.assertEqual([len(lots_of(all_places, size)) for size in range(5)], [1, 0, 190, 1140, 4845])

    def test_told_lists_are_new(self):
        told = lots_of((7, 4, []), 2)
        for lot in told:
            lot.clear()
        told.clear()
        self.assertEqual(len(lots_of((7, 4, []), 2)), 6)
        self.assertEqual(lots_of((7, 4, []), 2)[0], [0, 1])


class LeastTest(unittest.TestCase):
    def test_ordinary(self):
        net = (7, 5, RING[2])
        self.assertEqual([least(net, most) for most in range(5)], [None, None, None, [0, 1, 2], [0, 1, 2]])
        self.assertEqual([least(RING, most) for most in range(5)], [None, [5], [5], [5], [5]])

    def test_the_first_of_the_fewest(self):
        net = (7, 6, [[(0, 1), (1, 1), (2, 1)], [(1, 1), (2, 1), (5, 1)], [(0, 1), (3, 1), (4, 1)],
                      [(3, 1), (4, 1)], [(0, 1), (5, 1)]])
        self.assertEqual(least(net, 4), [1, 2])
        self.assertEqual(lots_of(net, 2), [[1, 2], [3, 4]])

    def test_fewer_places_go_ahead_of_a_lesser_row(self):
        net = (7, 5, [[(0, 1), (1, 1)], [(1, 1), (2, 1)], [(0, 1), (2, 1)], [(3, 1), (4, 1)]])
        self.assertEqual(least(net, 4), [3, 4])

    def test_none(self):
        for most in range(5):
            self.assertIsNone(least((7, 3, [[(0, 1)], [(1, 1)], [(2, 1)]]), most))
            self.assertIsNone(least(ring(5), most))
        self.assertEqual(least(ring(4), 4), [0, 1, 2, 3])
        self.assertIsNone(least(ring(4), 3))

    def test_no_checks(self):
        self.assertEqual([least((7, 20, []), most) for most in range(5)], [None, [0], [0], [0], [0]])

    def test_small_nets_against_all_lots(self):
        found = {}
        for drawn, net in drawn_nets(29, 25, 8):
            before = copy.deepcopy(net)
            for most in range(5):
                lots = [list(lot) for size in range(1, most + 1)
                        for lot in itertools.combinations(range(net[1]), size) if plainly_holds(net, lot)]
                told = least(net, most)
                self.assertEqual(told, lots[0] if lots else None)
                size = None if told is None else len(told)
                found[size] = found.get(size, 0) + 1
            self.assertEqual(net, before)
        self.assertTrue(len(found) == 5, found)


if __name__ == "__main__":
    unittest.main()
