"""A house: its hand, its things with their outs and holds, its records of far things, and its tick."""

from farhold.errors import Missing, NoWeight, NotHeld, NotNear
from farhold.reaching import reached
from farhold.weights import parted


class House:
    def __init__(self, number):
        self.number = number
        # Counted apart from the things that are there, so that the number of one that is gone never comes again.
        self.made = 0
        self.ticks = 0
        self.hand = {}
        self.outs = {}
        self.holds = {}
        self.records = {}

    def make(self):
        thing = (self.number, self.made)
        self.made += 1
        self.outs[thing] = 0
        self.holds[thing] = {}
        self.hand[thing] = True
        self.ticks += 1
        return thing

    def hold(self, a, b):
        # Both are looked for in the hand ahead of the question whether a is near: that is the order of refusals.
        self.need_in_hand(a)
        self.need_in_hand(b)
        self.need_near(a)
        self.holds[a][b] = True
        self.ticks += 1

    def drop(self, a, b):
        self.need_holding(a, b)
        self.holds[a].pop(b)
        self.ticks += 1

    def take(self, a, b):
        self.need_holding(a, b)
        self.hand[b] = True
        self.ticks += 1

    def free(self, b):
        self.need_in_hand(b)
        self.hand.pop(b)
        self.ticks += 1

    def part(self, b, share):
        self.need_in_hand(b)
        if self.is_near(b):
            self.outs[b] += share
            goes = share
        else:
            goes = self.part_record(b)
        self.ticks += 1
        return goes

    def came(self, b, weight):
        self.hand[b] = True
        if self.is_near(b):
            self.outs[b] -= weight
        else:
            self.add_to_record(b, weight)
        self.ticks += 1

    def added(self, b, weight):
        self.add_to_record(b, weight)
        self.ticks += 1

    def given(self, b, weight):
        # A let letter may have come ahead of the weight of a thing, so the thing may be gone by now.
        if b in self.outs:
            self.outs[b] -= weight
        self.ticks += 1

    def passed(self, b, share, mine):
        # One share is for the sender; where another house's hand is to hold the thing, that one needs a share, too.
        if mine:
            self.hand[b] = True
            self.outs[b] += share - 1
        else:
            self.outs[b] += 2 * share - 1
        self.ticks += 1

    def clean(self):
        lent = [thing for thing in self.outs if self.outs[thing] > 0]
        kept = reached(list(self.hand) + lent, self.holds)
        self.lose([thing for thing in self.outs if thing not in kept])
        self.ticks += 1
        return self.give_back()

    def let(self, things):
        self.lose(things)
        self.ticks += 1
        return self.give_back()

    def tick(self):
        return self.ticks

    def state(self):
        hand = tuple(sorted(self.hand))
        things = tuple([self.told(thing) for thing in sorted(self.outs)])
        records = tuple(sorted(self.records.items()))
        return (hand, things, records)

    def told(self, thing):
        return (thing, self.outs[thing], tuple(sorted(self.holds[thing])))

    def is_near(self, thing):
        return thing[0] == self.number

    def is_spent(self, thing):
        # A near thing has no record, and of a record of 2 or more something stays.
        return self.records.get(thing) == 0

    def need_in_hand(self, thing):
        if thing not in self.hand:
            raise NotHeld("the hand does not hold the thing")

    def need_near(self, thing):
        if not self.is_near(thing):
            raise NotNear("the thing lies in another house")

    def need_holding(self, a, b):
        self.need_in_hand(a)
        self.need_near(a)
        if b not in self.holds[a]:
            raise Missing("the one thing does not hold the other")

    def part_record(self, b):
        weight = self.records[b]
        if weight == 0:
            raise NoWeight("the last weight for the thing went on with a letter")
        halves = parted(weight)
        self.records[b] = halves[0]
        return halves[1]

    def add_to_record(self, b, weight):
        self.records[b] = self.records.get(b, 0) + weight

    def lose(self, things):
        for thing in things:
            if thing in self.outs:
                self.outs.pop(thing)
                self.holds.pop(thing)

    def give_back(self):
        held = dict(self.hand)
        for holder in self.holds:
            held.update(self.holds[holder])
        unheld = [thing for thing in sorted(self.records) if thing not in held]
        # A record of 0 goes like the others, but there is nothing in it to give back.
        back = [(thing, self.records[thing]) for thing in unheld if self.records[thing] > 0]
        for thing in unheld:
            self.records.pop(thing)
        return back
