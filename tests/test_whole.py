"""What the document promises over the whole program, and the interface as it stands."""

import importlib
import inspect
import random
import unittest

from tests.drawn import FORTY, asked, drawn_net, drawn_word, lists_in

from fewchecks import (answers, desk, errors, field, growth, knit, lots, nets, papers, rounds, solve, texts, votes)

FUNCTIONS = {
    "field": {"over": "p a b", "total": "p pairs word"},
    "nets": {"formed": "net", "sums": "net word", "is_true": "net word", "seats": "net", "degrees": "net",
             "crossed": "net"},
    "rounds": {"told_by": "net word c", "mended": "net word"},
    "lots": {"holds_out": "net lot", "greatest": "net lot", "is_bare": "net lot", "bared": "net lot",
             "lots_of": "net size", "least": "net most"},
    "solve": {"settled": "net word place", "filled": "net word", "comes_of": "net c", "rank": "net"},
    "votes": {"votes": "net word place", "turned": "net word", "voted": "net word most", "calmed": "net word"},
    "knit": {"knit": "p n many each", "staired": "p k rows", "laid": "p k rows letters"},
    "growth": {"grow": "letters checks share x", "bounds": "letters checks share figures steps",
               "fate": "letters checks share goal figures most", "limit": "letters checks goal figures most"},
    "texts": {"net_text": "net", "word_text": "word", "read_net": "text", "read_word": "text",
              "read_whole": "text most"},
    "papers": {"paper_of": "net word", "paper_fault": "net word paper", "paper_text": "paper", "read_paper": "text"},
    "answers": {"answer": "net_text word_text"},
}
CLASSES = {
    ("rounds", "Mender"): {"__init__": "net word", "step": "", "mend": "", "lose": "place", "put": "place letter",
                           "word": "", "lost": ""},
    ("solve", "Maker"): {"__init__": "net", "free": "", "made": "letters"},
    ("desk", "Desk"): {"__init__": "p n", "letter": "place letter", "check": "pairs rest", "take_back": "number",
                       "known": "", "left": "", "why": "place", "standing": "", "unlike": ""},
}
NET = (7, 5, [[(0, 1), (1, 2), (3, 6)], [(1, 3), (2, 1)], [(3, 4)]])
WORD = [1, None, 1, 5, None]
WHOLE = [1, 2, 1, 5, 3]
COUNTS = [(0, 2), (3, 1), (4, 2)]
PAPER = ([(1, 0, 2)], [4])


class InterfaceTest(unittest.TestCase):
    def test_functions_and_their_arguments(self):
        for module, names in FUNCTIONS.items():
            held = importlib.import_module("fewchecks." + module)
            for name, arguments in names.items():
                found = getattr(held, name)
                self.assertEqual(found.__module__, "fewchecks." + module)
                self.assertEqual(list(inspect.signature(found).parameters), arguments.split(), name)

    def test_classes_and_their_methods(self):
        for (module, name), methods in CLASSES.items():
            held = getattr(importlib.import_module("fewchecks." + module), name)
            for method, arguments in methods.items():
                found = list(inspect.signature(getattr(held, method)).parameters)
                self.assertEqual(found, ["self"] + arguments.split(), (name, method))


class HandedInTest(unittest.TestCase):
    # Whatever asks with lists is gone through once more: none is changed, none is told, none twice.
    def test_each_function(self):
        for ask, *handed in (
                (field.over, 7, 3, 5), (field.total, 7, [(0, 9), (0, -1)], WORD), (nets.sums, NET, WORD),
                (nets.seats, NET), (nets.degrees, NET), (nets.crossed, NET), (rounds.told_by, NET, WORD, 0),
                (rounds.mended, NET, WORD), (rounds.mended, NET, WHOLE), (lots.greatest, NET, [1, 2, 4]),
                (lots.greatest, NET, [4]), (lots.bared, NET, [4]), (lots.lots_of, NET, 1), (lots.least, NET, 4),
                (solve.settled, NET, WORD, 1), (solve.settled, NET, WORD, 4), (solve.filled, NET, WORD),
                (solve.filled, NET, WHOLE), (solve.comes_of, NET, 2), (solve.rank, NET), (votes.votes, NET, WHOLE, 3),
                (votes.turned, NET, WHOLE), (votes.voted, NET, WHOLE, 9), (votes.voted, NET, [0] * 5, 0),
                (votes.calmed, NET, WHOLE), (votes.calmed, NET, [0] * 5), (knit.knit, 7, 4, 5, 2),
                (knit.staired, 7, 2, [[0, 1], [], [1]]), (knit.laid, 7, 2, [[0, 1], [], [1]], [3, 4]),
                (knit.laid, 7, 2, [], [3, 4]), (growth.grow, COUNTS, COUNTS, (1, 2), (1, 3)),
                (growth.bounds, COUNTS, COUNTS, (1, 2), 3, 5), (growth.fate, COUNTS, COUNTS, (1, 2), 9, 3, 5),
                (growth.limit, COUNTS, COUNTS, 9, 2, 5), (texts.net_text, NET), (texts.word_text, WORD),
                (texts.read_net, "net 7 2\ncheck\ncheck 0:1"), (texts.read_word, "word 1 - 2"),
                (texts.read_whole, "-12", 2), (papers.paper_of, NET, WORD), (papers.paper_fault, NET, WORD, PAPER),
                (papers.paper_text, PAPER), (papers.read_paper, "mend 1 0 2\nleft 4"),
                (answers.answer, texts.net_text(NET), texts.word_text(WORD))):
            first = asked(self, ask, *handed)
            # What is told is the asker's own: changing it changes no later answer.
            second = asked(self, ask, *handed)
            self.assertEqual(first, second)
            self.assertFalse({id(found) for found in lists_in(first)} & {id(found) for found in lists_in(second)})
            for found in lists_in(first):
                found.clear()
            self.assertEqual(asked(self, ask, *handed), second)

    def test_truths_are_told_as_such(self):
        for ask, *handed in ((nets.formed, NET), (nets.is_true, NET, WHOLE), (lots.holds_out, NET, [4]),
                             (lots.is_bare, NET, [4])):
            self.assertIn(ask(*handed), (True, False))
            self.assertIs(type(ask(*handed)), bool)


class TogetherTest(unittest.TestCase):
    # A desk that is told the checks of a net and the known letters goes the rounds of a mender.
    def test_a_desk_knows_what_the_rounds_tell(self):
        drawn = random.Random(131)
        for p in (2, 3, 7, FORTY):
            for turn in range(40):
                n = drawn.randint(1, 12)
                net = drawn_net(drawn, p, n, drawn.randint(0, 12), 4)
                word = drawn_word(drawn, p, n, 0.5)
                told = desk.Desk(p, n)
                for pairs in net[2]:
                    told.check(pairs, 0)
                for place, letter in enumerate(word):
                    if letter is not None:
                        told.letter(place, letter)
                behind, found = rounds.mended(net, word)
                self.assertEqual(told.known(), behind)
                for k, mends in enumerate(found):
                    for place, c, letter in mends:
                        self.assertEqual(told.why(place), ("check", c, k + 1))
                self.assertEqual(told.left(), papers.paper_of(net, word)[1])
                self.assertEqual(told.left(), lots.greatest(net, nets.lost_of(word)))
                self.assertEqual(told.unlike(), [c for c, reached in enumerate(nets.sums(net, behind))
                                                 if reached not in (None, 0)])

    def test_a_word_goes_through_the_whole_program(self):
        drawn = random.Random(132)
        for p in (2, 7, FORTY):
            net = knit.knit(p, 30, 40, 3)
            maker = solve.Maker(net)
            for turn in range(10):
                word = maker.made([drawn.randrange(p) for place in maker.free()])
                spoilt = list(word)
                for place in drawn.sample(range(30), 3):
                    spoilt[place] = None
                rows = answers.answer(texts.net_text(net), texts.word_text(spoilt)).split("\n")
                self.assertEqual(texts.read_word(rows[0]), word)
                self.assertEqual(rows[-1], "end true")
                paper = papers.read_paper("\n".join(rows[1:-1]))
                drawn.shuffle(paper[0])
                self.assertIsNone(papers.paper_fault(net, spoilt, paper))

    def test_no_refusal_stands_under_another(self):
        own = [errors.NoPlace, errors.NoLetter, errors.NoCheck, errors.NoDeed, errors.NoNet, errors.NoText,
               errors.NotFormed]
        for first in own:
            self.assertTrue(issubclass(first, errors.NetError) and issubclass(first, ValueError))
            self.assertEqual([other for other in own if issubclass(first, other)], [first])


if __name__ == "__main__":
    unittest.main()
