"""A world: its houses, the post between them, and the inquiries that were begun."""

from farhold.errors import NoHouse, NoInquiry
from farhold.houses import House
from farhold.inquiries import Inquiry
from farhold.posts import Post


class World:
    def __init__(self, many, share):
        self.share = share
        self.houses = [House(number) for number in range(many)]
        self.post = Post()
        self.inquiries = {}
        self.finds = {}
        # The tick and the state that go with an answer, by the letter's number: a letter that is told has neither.
        self.enclosed = {}

    def make(self, h):
        return self.house(h).make()

    def hold(self, h, a, b):
        self.house(h).hold(a, b)

    def drop(self, h, a, b):
        self.house(h).drop(a, b)

    def take(self, h, a, b):
        self.house(h).take(a, b)

    def free(self, h, b):
        self.house(h).free(b)

    def send(self, h, g, b):
        house = self.house(h)
        self.house(g)
        weight = house.part(b, self.share)
        # A record of 1 has no half to hand on, so the thing's own house is asked to do it with new weight.
        if house.is_spent(b):
            return self.post.put("pass", h, b[0], (b, g))
        return self.post.put("hold", h, g, (b, weight))

    def clean(self, h):
        return self.give_back(h, self.house(h).clean())

    def ask(self, h):
        self.house(h)
        n = len(self.inquiries) + 1
        self.inquiries[n] = Inquiry(len(self.houses))
        self.ask_all(h, n, 1)
        return n

    def deliver(self, n):
        letter = self.post.taken(n)
        kind = letter[1]
        if kind == "pass":
            return self.pass_came(letter)
        if kind == "ask":
            return self.ask_came(letter)
        if kind == "answer":
            return self.answer_came(letter)
        if kind == "let":
            return self.let_came(letter)
        self.weight_came(letter)
        return []

    def state(self, h):
        return self.house(h).state()

    def tick(self, h):
        return self.house(h).tick()

    def letters(self):
        return self.post.letters()

    def inquiry(self, n):
        if n not in self.inquiries:
            raise NoInquiry("no inquiry has this number")
        if n not in self.finds:
            return (False, ())
        return (True, self.finds[n])

    def house(self, h):
        # Asked ahead of the index, as a list takes numbers below 0 to be counted from its end.
        if h < 0 or h >= len(self.houses):
            raise NoHouse("no house has this number")
        return self.houses[h]

    def weight_came(self, letter):
        kind = letter[1]
        house = self.houses[letter[3]]
        thing = letter[4][0]
        weight = letter[4][1]
        if kind == "hold":
            house.came(thing, weight)
        elif kind == "more":
            house.added(thing, weight)
        else:
            house.given(thing, weight)

    def pass_came(self, letter):
        home = letter[3]
        thing = letter[4][0]
        goal = letter[4][1]
        self.houses[home].passed(thing, self.share, goal == home)
        went = []
        if goal != home:
            went.append(self.post.put("hold", home, goal, (thing, self.share)))
        went.append(self.post.put("more", home, letter[2], (thing, self.share)))
        return went

    def ask_came(self, letter):
        asked = letter[3]
        house = self.houses[asked]
        number = self.post.put("answer", asked, letter[2], letter[4])
        self.enclosed[number] = (house.tick(), house.state())
        return [number]

    def answer_came(self, letter):
        sender = letter[2]
        beginner = letter[3]
        n = letter[4][0]
        enclosed = self.enclosed.pop(letter[0])
        if letter[4][1] == 1:
            last = self.inquiries[n].first(sender, enclosed[0], enclosed[1])
            return self.ask_all(beginner, n, 2) if last else []
        last = self.inquiries[n].second(sender, enclosed[0])
        return self.let_all(beginner, n) if last else []

    def let_came(self, letter):
        h = letter[3]
        return self.give_back(h, self.houses[h].let(letter[4]))

    def ask_all(self, beginner, n, turn):
        return [self.post.put("ask", beginner, h, (n, turn)) for h in range(len(self.houses))]

    def let_all(self, beginner, n):
        found = self.inquiries[n].result()
        self.finds[n] = found
        went = []
        for h in range(len(self.houses)):
            there = tuple([thing for thing in found if thing[0] == h])
            went.append(self.post.put("let", beginner, h, there))
        return went

    def give_back(self, h, records):
        return [self.post.put("back", h, record[0][0], record) for record in records]
