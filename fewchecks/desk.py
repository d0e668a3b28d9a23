"""A desk: letters and checks come and are taken back; it knows what the standing ones tell."""

from fewchecks.errors import NoCheck, NoDeed
from fewchecks.nets import ask_letter, ask_place, is_check, lost_of, sum_of
from fewchecks.rounds import told_for


# How many places of each check are not known is counted down, so that a round looks into
# those checks alone that are down to one: many rounds take hardly more time than few.
class Finding:
    def __init__(self, p, n, check_deeds):
        self.p = p
        self.check_deeds = check_deeds
        self.letters = [None] * n
        self.whys = {}
        self.having = [[] for place in range(n)]
        self.counts = {}
        for number in sorted(check_deeds):
            self.counts[number] = len(check_deeds[number][0])
            for place, factor in check_deeds[number][0]:
                self.having[place].append(number)

    def take(self, found):
        for place in found:
            self.letters[place] = found[place][0]
            self.whys[place] = found[place][1]
            for number in self.having[place]:
                self.counts[number] -= 1

    # The numbers rise, so the first check that tells a place is the least.
    def found_in(self, turn):
        found = {}
        for number in [other for other in self.counts if self.counts[other] == 1]:
            deed = self.check_deeds[number]
            told = told_for(self.p, deed[0], deed[1], self.letters)
            if told[0] not in found:
                found[told[0]] = (told[1], ("check", number, turn))
        return found


def first_found(letter_deeds):
    found = {}
    for number in sorted(letter_deeds):
        place = letter_deeds[number][0]
        if place not in found:
            found[place] = (letter_deeds[number][1], ("letter", number))
    return found


# Round 0 may find nothing and a check of one place tell something all the same.
def found_by(p, n, letter_deeds, check_deeds):
    finding = Finding(p, n, check_deeds)
    finding.take(first_found(letter_deeds))
    turn = 1
    found = finding.found_in(turn)
    while found != {}:
        finding.take(found)
        turn = turn + 1
        found = finding.found_in(turn)
    return (finding.letters, finding.whys)


class Desk:
    def __init__(self, p, n):
        self.p = p
        self.n = n
        self.letter_deeds = {}
        self.check_deeds = {}
        self.many = 0
        self.last = None

    def letter(self, place, letter):
        ask_place(self.n, place)
        ask_letter(self.p, letter)
        number = self.new_number()
        self.letter_deeds[number] = (place, letter)
        return number

    def check(self, pairs, rest):
        if not is_check(self.p, self.n, pairs):
            raise NoCheck("these pairs are no check")
        ask_letter(self.p, rest)
        number = self.new_number()
        self.check_deeds[number] = (list(pairs), rest)
        return number

    def new_number(self):
        self.last = None
        self.many = self.many + 1
        return self.many - 1

    def take_back(self, number):
        if number in self.letter_deeds:
            self.letter_deeds.pop(number)
        elif number in self.check_deeds:
            self.check_deeds.pop(number)
        else:
            raise NoDeed("no such deed stands")
        self.last = None

    # Reckoned anew from the standing deeds alone, so that nothing that was taken back stays;
    # kept until the next deed, for it may be asked place by place.
    def found(self):
        if self.last is None:
            self.last = found_by(self.p, self.n, self.letter_deeds, self.check_deeds)
        return self.last

    def known(self):
        return list(self.found()[0])

    def left(self):
        return lost_of(self.found()[0])

    def why(self, place):
        ask_place(self.n, place)
        return self.found()[1].get(place)

    def standing(self):
        return sorted(list(self.letter_deeds) + list(self.check_deeds))

    def unlike(self):
        return [number for number in self.standing() if not self.fits(number)]

    def fits(self, number):
        letters = self.found()[0]
        if number in self.letter_deeds:
            return letters[self.letter_deeds[number][0]] == self.letter_deeds[number][1]
        deed = self.check_deeds[number]
        return sum_of(self.p, deed[0], letters) in (None, deed[1])
