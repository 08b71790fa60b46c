"""The promise over the whole program: worlds driven by chance, from written seeds, and watched at each step."""

import random
import unittest

from farhold.errors import HoldError
from farhold.worlds import World
from helper import SIXTY, states, ticks, whole

WITH_WEIGHT = ("hold", "more", "back")
OFTEN = {"make": 5, "hold": 7, "drop": 1, "take": 4, "free": 7, "send": 10, "clean": 1, "ask": 1}


def there(told):
    return {thing: (out, holds) for state in told for thing, out, holds in state[1]}


def reached(told, letters):
    """What hands hold, what hold and pass letters carry, and what reached things hold, be it there or not."""
    holds = {thing: held for thing, (out, held) in there(told).items()}
    ahead = [thing for state in told for thing in state[0]]
    ahead += [letter[4][0] for letter in letters if letter[1] in ("hold", "pass")]
    found = set()
    while ahead:
        thing = ahead.pop()
        if thing not in found:
            found.add(thing)
            ahead.extend(holds.get(thing, ()))
    return found


def all_weights(told, letters):
    weights = {}
    pairs = [pair for state in told for pair in state[2]]
    pairs += [letter[4] for letter in letters if letter[1] in WITH_WEIGHT]
    pairs += [(letter[4][0], 1) for letter in letters if letter[1] == "pass"]
    for thing, weight in pairs:
        weights[thing] = weights.get(thing, 0) + weight
    return weights


def to_be_found(answers):
    """By the answers (tick, state, second tick) of all houses: all but what is reached, written anew."""
    still = {h: answer[1] for h, answer in answers.items() if answer[0] == answer[2]}
    things = there(still.values())
    weights = all_weights(still.values(), [])
    kept = {thing for state in still.values() for thing in state[0]}
    kept |= {thing for thing in things if things[thing][0] != weights.get(thing, 0)}
    for again in things:
        kept |= {held for thing in kept & set(things) for held in things[thing][1]}
    return tuple(sorted(set(things) - kept))


class Driven:
    def __init__(self, case, seed, many, share, most):
        self.case, self.many, self.most = case, many, most
        self.chance = random.Random(seed)
        self.world = World(many, share)
        self.answers = {}
        self.finds = {}
        self.kept = []
        self.done = {}
        self.gone = 0

    def some_house(self):
        return self.chance.randrange(self.many)

    def some_thing(self, h):
        hand = self.world.state(h)[0]
        if hand and self.chance.random() < 0.9:
            return self.chance.choice(hand)
        return (self.some_house(), self.chance.randrange(4))

    def some_held(self, h, a):
        holds = dict((thing, held) for thing, out, held in self.world.state(h)[1]).get(a, ())
        return self.chance.choice(holds) if holds else self.some_thing(h)

    def deed(self):
        """A deed, its house, and what is handed to it."""
        h = self.some_house()
        method = self.chance.choices(list(OFTEN), list(OFTEN.values()))[0]
        if method == "make" and len(there(states(self.world))) >= self.most:
            method = "free"
        if method == "ask" and len(self.answers) - len(self.finds) >= 3:
            method = "send"
        if method in ("make", "clean", "ask"):
            return method, (h,)
        if method == "send":
            return method, (h, self.some_house(), self.some_thing(h))
        a = self.some_thing(h)
        if method == "free":
            return method, (h, a)
        return method, (h, a, self.some_thing(h) if method == "hold" else self.some_held(h, a))

    def do_deed(self):
        method, handed = self.deed()
        ahead = whole(self.world)
        try:
            answer = getattr(self.world, method)(*handed)
        except HoldError:
            self.case.assertEqual(whole(self.world), ahead)
            return
        self.done[method] = self.done.get(method, 0) + 1
        if method == "ask":
            self.answers[answer] = {}
            # An inquiry's own number is told, not those of its letters, which are the last ones that were put in.
            went = [letter[0] for letter in self.world.letters()[-self.many:]]
            self.watch(ahead, [], went)
        elif method == "clean":
            self.watch(ahead, [handed[0]], answer)
        else:
            self.watch(ahead, [handed[0]], [answer] if method == "send" else [])

    def come(self):
        letters = self.world.letters()
        letter = self.chance.choice(letters)
        number, kind, sender, goal, about = letter
        ahead = whole(self.world)
        went = self.world.deliver(number)
        self.case.assertNotIn(letter, self.world.letters())
        if kind == "ask":
            self.note_answer(about, goal, ahead)
        if kind == "answer" and went:
            self.last_answer(about, went)
        self.done[kind] = self.done.get(kind, 0) + 1
        self.watch(ahead, [] if kind in ("ask", "answer") else [goal], went)

    def note_answer(self, about, h, ahead):
        if about[1] == 1:
            self.answers[about[0]][h] = (ahead[1][h], ahead[0][h])
        else:
            self.answers[about[0]][h] += (ahead[1][h],)

    def last_answer(self, about, went):
        letters = {letter[0]: letter for letter in self.world.letters()}
        kind = "ask" if about[1] == 1 else "let"
        self.case.assertEqual([letters[n][1] for n in went], [kind] * self.many)
        self.case.assertEqual([letters[n][3] for n in went], list(range(self.many)))
        if kind == "let":
            found = to_be_found(self.answers[about[0]])
            parted = [tuple(thing for thing in found if thing[0] == h) for h in range(self.many)]
            self.case.assertEqual([letters[n][4] for n in went], parted)
            self.finds[about[0]] = found

    def watch(self, ahead, ticked, went):
        """Behind a step: only the houses that ticked are otherwise, just these letters went, and the promises hold."""
        told, letters = states(self.world), self.world.letters()
        self.case.assertEqual(ticks(self.world), [tick + ticked.count(g) for g, tick in enumerate(ahead[1])])
        for g in range(self.many):
            if g not in ticked:
                self.case.assertEqual(told[g], ahead[0][g])
        self.case.assertEqual([letter[0] for letter in letters if letter not in ahead[2]], went)
        self.watch_weights(told, letters)
        self.watch_reached(ahead, told, letters)
        inquiries = [(n in self.finds, self.finds.get(n, ())) for n in range(1, len(self.answers) + 1)]
        self.case.assertEqual(whole(self.world)[3], inquiries)
        if self.chance.random() < 0.05:
            self.kept.append((ahead, repr(ahead)))

    def watch_weights(self, told, letters):
        weights = all_weights(told, letters)
        for thing, (out, holds) in there(told).items():
            self.case.assertEqual(out, weights.get(thing, 0), thing)
        for h, (hand, things, records) in enumerate(told):
            held = {thing for told_thing in things for thing in told_thing[2]} | set(hand)
            self.case.assertLessEqual({thing for thing in held if thing[0] != h}, set(dict(records)))
            for thing, weight in records:
                passes = [x for x in letters if x[1] == "pass" and x[2] == h and x[4][0] == thing]
                mores = [x for x in letters if x[1] == "more" and x[3] == h and x[4][0] == thing]
                self.case.assertTrue(weight > 0 or passes or mores)

    def watch_reached(self, ahead, told, letters):
        now = set(there(told))
        self.case.assertLessEqual(reached(told, letters), now)
        gone = set(there(ahead[0])) - now
        self.case.assertEqual(gone & reached(ahead[0], ahead[2]), set())
        self.gone += len(gone)

    def all_come(self):
        many = 0
        while self.world.letters():
            self.come()
            many += 1
        return many

    def end(self):
        """No deed is done any more; all letters come; one inquiry lets go all that is not reached."""
        self.all_come()
        told = states(self.world)
        kept = reached(told, [])
        records = sum(len(state[2]) for state in told)
        self.answers[self.world.ask(self.some_house())] = {}
        many = self.all_come()
        self.case.assertEqual(set(there(states(self.world))), kept)
        self.case.assertEqual(self.world.letters(), [])
        self.case.assertGreaterEqual(many, 5 * self.many)
        self.case.assertLessEqual(many, 5 * self.many + records)
        for one, words in self.kept:
            self.case.assertEqual(repr(one), words)


class WholeTest(unittest.TestCase):
    def run_worlds(self, seeds, many, share, steps, most=12, delivered=0.5):
        """How often each deed was done and each kind of letter came; how many things were found amid deeds."""
        done, found = {}, 0
        for seed in seeds:
            driven = Driven(self, seed, many, share, most)
            for again in range(steps):
                if driven.world.letters() and driven.chance.random() < delivered:
                    driven.come()
                else:
                    driven.do_deed()
            found += sum(len(things) for things in driven.finds.values())
            driven.end()
            for name, times in driven.done.items():
                done[name] = done.get(name, 0) + times
        return done, found

    def test_shares_of_two(self):
        done, found = self.run_worlds(range(20), 3, 2, 250)
        for name in ("make", "hold", "drop", "take", "free", "send", "clean", "ask", "pass", "more", "back", "let"):
            self.assertGreater(done[name], 9, name)
        self.assertGreater(found, 20)

    def test_other_shares(self):
        for share in (3, 8, SIXTY):
            self.run_worlds(range(6), 3, share, 200)

    def test_one_house(self):
        self.run_worlds(range(8), 1, 2, 80)

    def test_two_houses(self):
        done, found = self.run_worlds(range(15), 2, 2, 200)
        self.assertGreater(found, 20)

    def test_letters_that_are_slow(self):
        self.run_worlds(range(10), 3, 2, 200, delivered=0.3)

    def test_letters_that_are_swift(self):
        done, found = self.run_worlds(range(10), 3, 2, 300, delivered=0.8)
        self.assertGreater(found, 20)

    def test_twelve_houses(self):
        self.run_worlds(range(3), 12, 4, 400, most=40, delivered=0.7)


if __name__ == "__main__":
    unittest.main()
