import itertools
import random
import unittest

from tests.drawn import FORTY, SIXTY, asked

from fewchecks.desk import Desk
from fewchecks.errors import NetError, NoCheck, NoDeed, NoLetter, NoPlace

PRIMES = (2, 3, 5, 101, FORTY)


# Round by round as the document has it: told are the word and why each known place is known.
def plain_known(p, n, deeds):
    word = [None] * n
    why = {}
    for number in sorted(deeds):
        kind, first, second = deeds[number]
        if kind == "letter" and word[first] is None:
            word[first] = second
            why[first] = ("letter", number)
    turn = 0
    while True:
        turn += 1
        found = {}
        for number in sorted(deeds):
            kind, first, second = deeds[number]
            open_places = [place for place, factor in first if word[place] is None] if kind == "check" else []
            if len(open_places) == 1 and open_places[0] not in found:
                place = open_places[0]
                rest = second - sum(factor * word[at] for at, factor in first if at != place)
                found[place] = (rest * pow(dict(first)[place], -1, p) % p, ("check", number, turn))
        if not found:
            return word, why
        for place, (letter, reason) in found.items():
            word[place] = letter
            why[place] = reason


def plain_unlike(p, n, deeds):
    word = plain_known(p, n, deeds)[0]
    found = []
    for number in sorted(deeds):
        kind, first, second = deeds[number]
        if kind == "letter":
            fits = word[first] == second
        else:
            letters = [word[place] for place, factor in first]
            fits = None in letters or sum(factor * word[place] for place, factor in first) % p == second
        if not fits:
            found.append(number)
    return found


def all_of(desk, n):
    return (desk.known(), desk.left(), [desk.why(place) for place in range(n)], desk.standing(), desk.unlike())


class Pair:
    """A desk, and beside it the standing deeds with their numbers, as they were told."""

    def __init__(self, test, p, n):
        self.test, self.p, self.n = test, p, n
        self.desk = Desk(p, n)
        self.deeds = {}
        self.next = 0

    def letter(self, place, letter):
        number = self.desk.letter(place, letter)
        self.told(number, ("letter", place, letter))

    def check(self, pairs, rest):
        handed = list(pairs)
        number = self.desk.check(handed, rest)
        self.test.assertEqual(handed, pairs)
        self.told(number, ("check", list(pairs), rest))
        handed.clear()

    def told(self, number, deed):
        self.test.assertEqual(number, self.next)
        self.test.assertIs(type(number), int)
        self.deeds[number] = deed
        self.next += 1

    def take_back(self, number):
        self.test.assertIsNone(self.desk.take_back(number))
        self.deeds.pop(number)

    def ask(self):
        word, why = plain_known(self.p, self.n, self.deeds)
        wanted = (word, [place for place in range(self.n) if word[place] is None],
                  [why.get(place) for place in range(self.n)], sorted(self.deeds),
                  plain_unlike(self.p, self.n, self.deeds))
        self.test.assertEqual(all_of(self.desk, self.n), wanted)


def drawn_pairs(drawn, p, n, most):
    places = sorted(drawn.sample(range(n), drawn.randint(1, min(n, most))))
    return [(place, drawn.randrange(1, p)) for place in places]


class DeedsTest(unittest.TestCase):
    def test_numbers_from_nought_on_in_the_order_told(self):
        desk = Desk(7, 3)
        self.assertEqual(desk.letter(0, 5), 0)
        self.assertEqual(desk.check([(0, 1), (1, 2)], 3), 1)
        self.assertEqual(desk.letter(0, 5), 2)
        self.assertEqual(desk.check([(0, 1), (1, 2)], 3), 3)
        self.assertEqual(desk.letter(2, 0), 4)
        self.assertEqual(desk.standing(), [0, 1, 2, 3, 4])

    def test_no_number_is_told_twice(self):
        desk = Desk(7, 3)
        self.assertEqual([desk.letter(0, 1), desk.letter(1, 1), desk.check([(2, 1)], 0)], [0, 1, 2])
        desk.take_back(2)
        self.assertEqual(desk.letter(2, 3), 3)
        desk.take_back(0)
        desk.take_back(3)
        desk.take_back(1)
        self.assertEqual(desk.standing(), [])
        self.assertEqual(desk.check([(2, 1)], 0), 4)
        self.assertEqual(desk.standing(), [4])

    def assert_refused(self, desk, n, error, ask):
        before = all_of(desk, n)
        with self.assertRaises(error) as caught:
            ask()
        self.assertIs(type(caught.exception), error)
        self.assertIsInstance(caught.exception, NetError)
        self.assertEqual(all_of(desk, n), before)

    def test_refused_letters(self):
        for p in PRIMES:
            desk = Desk(p, 4)
            desk.letter(1, p - 1)
            for place in (-1, -4, -5, 4, 5, SIXTY, -SIXTY):
                for letter in (0, p - 1, p, -1, SIXTY):
                    self.assert_refused(desk, 4, NoPlace, lambda: desk.letter(place, letter))
            for letter in (-1, p, p + 1, -p, SIXTY, -SIXTY):
                for place in (0, 1, 3):
                    self.assert_refused(desk, 4, NoLetter, lambda: desk.letter(place, letter))
            self.assertEqual(desk.letter(3, p - 1), 1)
            self.assertEqual(desk.letter(0, 0), 2)

    def test_refused_checks(self):
        for p in PRIMES:
            desk = Desk(p, 4)
            desk.letter(1, p - 1)
            for pairs in ([], [(1, 1), (0, 1)], [(1, 1), (1, 1)], [(0, 1), (2, 1), (2, 1)], [(0, 1), (3, 1), (1, 1)],
                          [(4, 1)], [(0, 1), (4, 1)], [(-1, 1)], [(-1, 1), (0, 1)], [(-4, 1)], [(SIXTY, 1)],
                          [(0, 0)], [(0, p)], [(0, -1)], [(0, p + 1)], [(0, 1), (1, 0)], [(0, 1), (1, p)],
                          [(0, 1), (1, -1)], [(0, SIXTY)], [(0, -SIXTY)], [(0, p), (1, 1)]):
                for rest in (0, p - 1, p, -1):
                    self.assert_refused(desk, 4, NoCheck, lambda: desk.check(pairs, rest))
            for rest in (-1, p, p + 1, SIXTY, -SIXTY):
                self.assert_refused(desk, 4, NoLetter, lambda: desk.check([(0, 1), (3, p - 1)], rest))
            self.assertEqual(desk.check([(0, 1), (3, p - 1)], p - 1), 1)

    def test_refusals_ahead_of_any_deed_use_up_no_number(self):
        desk = Desk(5, 2)
        for ask in (lambda: desk.letter(2, 0), lambda: desk.letter(0, 5), lambda: desk.check([], 0),
                    lambda: desk.check([(0, 1)], 5), lambda: desk.take_back(0)):
            with self.assertRaises(NetError):
                ask()
        self.assertEqual(desk.letter(0, 0), 0)

    def test_pairs_changed_behind_the_call(self):
        desk = Desk(7, 3)
        pairs = [(0, 1), (1, 2)]
        desk.check(pairs, 3)
        desk.letter(0, 1)
        pairs[1] = (2, 1)
        pairs.append((2, 6))
        self.assertEqual(desk.known(), [1, 1, None])
        pairs.clear()
        desk.letter(2, 1)
        self.assertEqual(desk.known(), [1, 1, 1])
        self.assertEqual(desk.unlike(), [])
        self.assertEqual(desk.why(1), ("check", 0, 1))

    def test_pairs_handed_in_stay(self):
        desk = Desk(7, 3)
        pairs = [(0, 1), (1, 2)]
        asked(self, desk.check, pairs, 3)
        self.assertEqual(pairs, [(0, 1), (1, 2)])
        with self.assertRaises(NoLetter):
            desk.check(pairs, 7)
        self.assertEqual(pairs, [(0, 1), (1, 2)])

    def test_take_back_refused(self):
        desk = Desk(7, 3)
        desk.letter(0, 1)
        desk.check([(0, 1), (1, 1)], 0)
        desk.letter(2, 4)
        self.assertIsNone(desk.take_back(1))
        for number in (1, 3, 4, -1, -3, SIXTY, -SIXTY):
            self.assert_refused(desk, 3, NoDeed, lambda: desk.take_back(number))
        self.assertIsNone(desk.take_back(0))
        for number in (0, 1, 3):
            self.assert_refused(desk, 3, NoDeed, lambda: desk.take_back(number))
        self.assertEqual(desk.standing(), [2])
        self.assertEqual(desk.letter(0, 1), 3)

    def test_deeds_alike_are_deeds_of_their_own(self):
        desk = Desk(7, 1)
        self.assertEqual([desk.letter(0, 4) for turn in range(3)], [0, 1, 2])
        desk.take_back(1)
        self.assertEqual((desk.known(), desk.why(0)), ([4], ("letter", 0)))
        desk.take_back(0)
        self.assertEqual((desk.known(), desk.why(0)), ([4], ("letter", 2)))
        desk.take_back(2)
        self.assertEqual((desk.known(), desk.why(0)), ([None], None))

    def test_two_desks_are_apart(self):
        first, second = Desk(7, 2), Desk(7, 2)
        first.letter(0, 3)
        self.assertEqual(second.known(), [None, None])
        self.assertEqual(second.check([(1, 1)], 2), 0)
        self.assertEqual((first.known(), second.known()), ([3, None], [None, 2]))


class KnownTest(unittest.TestCase):
    def test_nothing_told(self):
        self.assertEqual(all_of(Desk(5, 3), 3), ([None] * 3, [0, 1, 2], [None] * 3, [], []))

    def test_the_least_standing_letter(self):
        desk = Desk(7, 2)
        for letter in (3, 5, 3):
            desk.letter(1, letter)
        self.assertEqual((desk.known(), desk.why(1), desk.unlike()), ([None, 3], ("letter", 0), [1]))
        desk.take_back(0)
        self.assertEqual((desk.known(), desk.why(1), desk.unlike()), ([None, 5], ("letter", 1), [2]))
        desk.take_back(1)
        self.assertEqual((desk.known(), desk.why(1), desk.unlike()), ([None, 3], ("letter", 2), []))

    def test_a_letter_goes_ahead_of_a_check(self):
        desk = Desk(7, 2)
        desk.check([(0, 1)], 2)
        self.assertEqual((desk.known(), desk.why(0)), ([2, None], ("check", 0, 1)))
        desk.letter(0, 3)
        self.assertEqual((desk.known(), desk.why(0), desk.unlike()), ([3, None], ("letter", 1), [0]))
        desk.letter(0, 2)
        self.assertEqual(desk.unlike(), [0, 2])
        desk.take_back(1)
        self.assertEqual((desk.known(), desk.why(0), desk.unlike()), ([2, None], ("letter", 2), []))

    def test_the_sum_is_the_rest(self):
        desk = Desk(7, 3)
        desk.check([(0, 2), (1, 3), (2, 5)], 6)
        desk.letter(0, 4)
        self.assertEqual(desk.left(), [1, 2])
        desk.letter(2, 1)
        # 2 * 4 + 3 * 0 + 5 * 1 is 13, which is 6.
        self.assertEqual(desk.known(), [4, 0, 1])
        self.assertEqual(desk.why(1), ("check", 0, 1))
        self.assertEqual(desk.unlike(), [])

    def test_a_check_of_one_place(self):
        for p in PRIMES[1:]:
            desk = Desk(p, 2)
            desk.check([(1, p - 1)], 1)
            self.assertEqual(all_of(desk, 2), ([None, p - 1], [0], [None, ("check", 0, 1)], [0], []))
        desk = Desk(2, 1)
        desk.check([(0, 1)], 1)
        self.assertEqual(all_of(desk, 1), ([1], [], [("check", 0, 1)], [0], []))

    def test_rounds_by_what_was_known_ahead(self):
        desk = Desk(7, 4)
        desk.letter(0, 3)
        for place in range(3):
            desk.check([(place, 1), (place + 1, 6)], 0)
        self.assertEqual(desk.known(), [3, 3, 3, 3])
        self.assertEqual([desk.why(place) for place in range(4)],
                         [("letter", 0), ("check", 1, 1), ("check", 2, 2), ("check", 3, 3)])

    def test_the_least_check_of_the_round(self):
        desk = Desk(7, 3)
        # Check 0 would tell place 2 as well, but a round later than check 2.
        desk.check([(1, 1), (2, 1)], 0)
        desk.letter(0, 1)
        desk.check([(0, 1), (2, 1)], 5)
        desk.check([(0, 1), (1, 1)], 6)
        self.assertEqual(desk.known(), [1, 5, 4])
        self.assertEqual([desk.why(1), desk.why(2)], [("check", 3, 1), ("check", 2, 1)])
        self.assertEqual(desk.unlike(), [0])

    def test_two_checks_that_tell_unlike_letters(self):
        desk = Desk(7, 2)
        desk.letter(0, 1)
        desk.check([(0, 1), (1, 1)], 4)
        desk.check([(0, 1), (1, 1)], 5)
        self.assertEqual((desk.known(), desk.why(1), desk.unlike()), ([1, 3], ("check", 1, 1), [2]))
        desk.take_back(1)
        self.assertEqual((desk.known(), desk.why(1), desk.unlike()), ([1, 4], ("check", 2, 1), []))

    def test_why_refused_and_none(self):
        desk = Desk(7, 3)
        desk.letter(1, 4)
        self.assertIsNone(desk.why(0))
        for place in (-1, -3, 3, 4, SIXTY, -SIXTY):
            with self.assertRaises(NoPlace) as caught:
                desk.why(place)
            self.assertIs(type(caught.exception), NoPlace)
        self.assertEqual(desk.why(1), ("letter", 0))

    def test_a_deed_taken_back_and_all_that_came_of_it(self):
        desk = Desk(7, 5)
        for place in range(4):
            desk.check([(place, 1), (place + 1, 6)], 0)
        number = desk.letter(0, 3)
        self.assertEqual(desk.known(), [3] * 5)
        desk.take_back(number)
        self.assertEqual(all_of(desk, 5), ([None] * 5, [0, 1, 2, 3, 4], [None] * 5, [0, 1, 2, 3], []))
        desk.letter(4, 2)
        self.assertEqual(desk.known(), [2] * 5)
        self.assertEqual(desk.why(0), ("check", 0, 4))
        desk.take_back(2)
        self.assertEqual(desk.known(), [None, None, None, 2, 2])
        self.assertEqual((desk.why(3), desk.why(2)), (("check", 3, 1), None))

    def test_unlike(self):
        desk = Desk(7, 4)
        desk.letter(0, 1)
        desk.letter(1, 2)
        desk.check([(0, 1), (1, 1)], 3)
        desk.check([(0, 1), (1, 1)], 4)
        desk.check([(0, 1), (1, 1), (2, 1), (3, 1)], 0)
        self.assertEqual(desk.unlike(), [3])
        desk.letter(0, 2)
        self.assertEqual(desk.unlike(), [3, 5])
        desk.take_back(0)
        self.assertEqual(desk.unlike(), [2])

    def test_lists_are_new_at_each_asking(self):
        desk = Desk(7, 3)
        desk.letter(0, 1)
        desk.letter(0, 2)
        for ask in (desk.known, desk.left, desk.standing, desk.unlike):
            told = asked(self, ask)
            kept = list(told)
            self.assertIsNot(told, ask())
            self.assertIs(type(told), list)
            told.append(9)
            told[0] = 9
            self.assertEqual(asked(self, ask), kept)
        self.assertEqual(asked(self, desk.why, 0), ("letter", 0))

    def test_drawn_deeds(self):
        drawn = random.Random(91)
        for p, turn in itertools.product(PRIMES, range(14)):
            n = drawn.randint(1, 8)
            pair = Pair(self, p, n)
            for deed in range(30):
                choice = drawn.random()
                if choice < 0.25 and pair.deeds:
                    pair.take_back(drawn.choice(sorted(pair.deeds)))
                elif choice < 0.5:
                    pair.letter(drawn.randrange(n), drawn.randrange(p))
                else:
                    pair.check(drawn_pairs(drawn, p, n, 4), drawn.randrange(p))
                if drawn.random() < 0.7:
                    pair.ask()
            pair.ask()

    def test_a_desk_that_is_told_the_standing_deeds_alone(self):
        drawn = random.Random(92)
        for p in PRIMES:
            pair = Pair(self, p, 40)
            for deed in range(120):
                pair.check(drawn_pairs(drawn, p, 40, 3), drawn.randrange(p))
                if deed % 4 == 0:
                    pair.letter(drawn.randrange(40), drawn.randrange(p))
                if deed % 3 == 0:
                    pair.take_back(drawn.choice(sorted(pair.deeds)))
                if deed % 20 == 0:
                    pair.ask()
            fresh = Desk(p, 40)
            numbers = sorted(pair.deeds)
            for number in numbers:
                kind, first, second = pair.deeds[number]
                if kind == "letter":
                    fresh.letter(first, second)
                else:
                    fresh.check(first, second)
            self.assertEqual(fresh.known(), pair.desk.known())
            self.assertEqual(fresh.left(), pair.desk.left())
            self.assertEqual([numbers[number] for number in fresh.unlike()], pair.desk.unlike())
            for place in range(40):
                why = fresh.why(place)
                self.assertEqual(why and (why[0], numbers[why[1]]) + why[2:], pair.desk.why(place))

    def test_four_hundred_deeds_and_long_chains(self):
        for p in (2, FORTY):
            desk = Desk(p, 400)
            for place in range(399):
                self.assertEqual(desk.check([(place, 1), (place + 1, p - 1)], 0), place)
            self.assertEqual(desk.left(), list(range(400)))
            self.assertEqual(desk.letter(0, p - 1), 399)
            self.assertEqual(desk.known(), [p - 1] * 400)
            self.assertEqual([desk.why(place) for place in range(1, 400)],
                             [("check", place - 1, place) for place in range(1, 400)])
            desk.take_back(200)
            self.assertEqual(desk.known(), [p - 1] * 201 + [None] * 199)
            desk.take_back(399)
            self.assertEqual(desk.left(), list(range(400)))

    def test_chains_backwards(self):
        desk = Desk(5, 200)
        for place in reversed(range(199)):
            desk.check([(place, 1), (place + 1, 4)], 4)
        desk.letter(199, 0)
        self.assertEqual(desk.known(), [(place + 1) % 5 for place in range(200)])
        self.assertEqual([desk.why(place) for place in range(199)],
                         [("check", 198 - place, 199 - place) for place in range(199)])


if __name__ == "__main__":
    unittest.main()
