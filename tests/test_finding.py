import itertools
import random
import unittest

from farhold.finding import unreached
from helper import SIXTY


def house(hand=(), things=(), records=()):
    return (tuple(hand), tuple(things), tuple(records))


def expected(states):
    """The found ones, written anew: what is reached is added until nothing more comes."""
    there = {thing: (out, holds) for state in states.values() for thing, out, holds in state[1]}
    reached = set()
    for hand, things, records in states.values():
        reached |= set(hand) & set(there)
    for thing in there:
        pairs = [pair for state in states.values() for pair in state[2] if pair[0] == thing]
        if sum(weight for same, weight in pairs) != there[thing][0]:
            reached.add(thing)
    while True:
        more = {held for thing in reached for held in there[thing][1] if held in there} - reached
        if not more:
            return tuple(sorted(set(there) - reached))
        reached |= more


class FoundTest(unittest.TestCase):
    def test_no_house_and_no_thing(self):
        self.assertEqual(unreached({}), ())
        self.assertEqual(unreached({0: house(), 5: house()}), ())

    def test_what_nobody_holds_is_found(self):
        self.assertEqual(unreached({0: house(things=[((0, 0), 0, ())])}), ((0, 0),))

    def test_what_a_hand_of_the_same_house_holds_is_not(self):
        states = {0: house([(0, 1)], [((0, 0), 0, ()), ((0, 1), 0, ())])}
        self.assertEqual(unreached(states), ((0, 0),))

    def test_what_a_hand_of_another_house_holds_is_not(self):
        things = [((0, 0), 4, ()), ((0, 1), 4, ())]
        records = [((0, 0), 4), ((0, 1), 4)]
        self.assertEqual(unreached({0: house(things=things), 1: house([(0, 1)], (), records)}), ((0, 0),))

    def test_a_ring_across_houses_is_found(self):
        one = house(things=[((0, 0), 4, ((1, 0),))], records=[((1, 0), 6)])
        other = house(things=[((1, 0), 6, ((0, 0),))], records=[((0, 0), 4)])
        self.assertEqual(unreached({0: one, 1: other}), ((0, 0), (1, 0)))

    def test_a_ring_that_a_hand_leads_to_is_not(self):
        lead = ((0, 1), 0, ((0, 0),))
        one = house([(0, 1)], [((0, 0), 4, ((1, 0),)), lead], [((1, 0), 6)])
        other = house(things=[((1, 0), 6, ((0, 0),))], records=[((0, 0), 4)])
        self.assertEqual(unreached({0: one, 1: other}), ())

    def test_a_thing_that_holds_itself_is_found(self):
        self.assertEqual(unreached({3: house(things=[((3, 7), 0, ((3, 7),))])}), ((3, 7),))

    def test_holders_of_what_is_reached_are_found(self):
        states = {0: house([(0, 1)], [((0, 0), 0, ((0, 1),)), ((0, 1), 0, ())])}
        self.assertEqual(unreached(states), ((0, 0),))


class WeightTest(unittest.TestCase):
    def alone(self, out, *weights):
        """Whether a thing of this out is found, with a record in a house for each of these weights."""
        states = {number: house(records=[((0, 0), weight)]) for number, weight in enumerate(weights, start=1)}
        states[0] = house(things=[((0, 0), out, ())])
        return unreached(states) == ((0, 0),)

    def test_the_out_is_the_sum(self):
        self.assertTrue(self.alone(0))
        self.assertTrue(self.alone(0, 0))
        self.assertTrue(self.alone(5, 5))
        self.assertTrue(self.alone(5, 2, 3))
        self.assertTrue(self.alone(5, 2, 0, 1, 2))

    def test_the_out_is_more_than_the_sum(self):
        self.assertFalse(self.alone(1))
        self.assertFalse(self.alone(5, 4))
        self.assertFalse(self.alone(5, 2, 2))
        self.assertFalse(self.alone(1, 0))

    def test_the_out_is_less_than_the_sum(self):
        self.assertFalse(self.alone(0, 1))
        self.assertFalse(self.alone(5, 6))
        self.assertFalse(self.alone(5, 3, 3))

    def test_sixty_figures(self):
        self.assertTrue(self.alone(SIXTY, SIXTY))
        self.assertFalse(self.alone(SIXTY, SIXTY - 1))
        self.assertTrue(self.alone(2 * SIXTY, SIXTY, SIXTY - 1, 1))
        self.assertFalse(self.alone(2 * SIXTY + 1, SIXTY, SIXTY))
        self.assertTrue(self.alone(-3, -SIXTY, SIXTY - 3))

    def test_what_a_thing_with_weight_elsewhere_leads_to_is_not_found(self):
        things = [((0, 0), 1, ((0, 1),)), ((0, 1), 0, ((1, 0),)), ((0, 2), 0, ())]
        states = {0: house(things=things, records=[((1, 0), 3)]), 1: house(things=[((1, 0), 3, ())])}
        self.assertEqual(unreached(states), ((0, 2),))

    def test_a_record_for_another_thing_does_not_count(self):
        states = {0: house(things=[((0, 0), 2, ()), ((0, 1), 0, ())]), 1: house(records=[((0, 1), 2)])}
        self.assertEqual(unreached(states), ())


class PassedByTest(unittest.TestCase):
    def test_things_of_houses_that_did_not_stand_still(self):
        states = {2: house([(5, 0)], [((2, 0), 0, ((5, 0), (5, 1)))], [((5, 0), 4), ((5, 1), 4)])}
        self.assertEqual(unreached(states), ((2, 0),))

    def test_things_that_are_in_no_state(self):
        states = {2: house([(2, 9), (3, 9)], [((2, 0), 0, ((2, 1), (3, 1)))], [((3, 9), 4), ((3, 1), 4)]), 3: house()}
        self.assertEqual(unreached(states), ((2, 0),))

    def test_the_way_goes_on_beside_them(self):
        things = [((2, 0), 0, ((1, 0), (2, 7), (2, 1), (9, 9))), ((2, 1), 0, ()), ((2, 2), 0, ())]
        self.assertEqual(unreached({2: house([(0, 5), (2, 0)], things)}), ((2, 2),))


class ToldTest(unittest.TestCase):
    STATES = {
        number: house(things=[((number, own), 0, ()) for own in (0, 2, 9, 10, 100)]) for number in (11, 2, 9, 10, 0)
    }

    def test_sorted(self):
        told = unreached(self.STATES)
        self.assertEqual(told, tuple((number, own) for number in (0, 2, 9, 10, 11) for own in (0, 2, 9, 10, 100)))

    def test_kinds(self):
        for states in ({}, self.STATES):
            told = unreached(states)
            self.assertIs(type(told), tuple)
            self.assertEqual({type(thing) for thing in told} - {tuple}, set())

    def test_what_is_handed_in_is_not_changed(self):
        states = dict(self.STATES)
        unreached(states)
        self.assertEqual(states, self.STATES)
        self.assertEqual(list(states), list(self.STATES))

    def test_the_order_of_the_dict_does_not_matter(self):
        one = house([(1, 1)], [((0, 0), 4, ((1, 0),))], [((1, 0), 6), ((1, 1), 1)])
        other = house((), [((1, 0), 6, ((0, 0),)), ((1, 1), 1, ((0, 0),))], [((0, 0), 4)])
        third = house((), [((2, 0), 0, ((1, 0),))], [((1, 0), 0)])
        for order in itertools.permutations(((0, one), (1, other), (2, third))):
            self.assertEqual(unreached(dict(order)), ((2, 0),))

    def test_two_hundred_things_in_a_row_across_twelve_houses(self):
        row = [(number % 12, number // 12) for number in range(200)]
        states = {}
        for h in range(12):
            own = [place for place in range(200) if place % 12 == h]
            things = [(row[place], 3 if place else 0, tuple(row[place + 1:place + 2])) for place in own]
            states[h] = house((), things, [(row[place + 1], 3) for place in own if place < 199])
        self.assertEqual(unreached(states), tuple(sorted(row)))
        states[0] = ((row[0],), *states[0][1:])
        self.assertEqual(unreached(states), ())


class ManyStatesTest(unittest.TestCase):
    """States of whatever outs, weights and holds, against the words of the document written anew."""

    def some_states(self, chance):
        names = [(h, number) for h in range(4) for number in range(3)]
        still = chance.sample(range(4), chance.randint(1, 4))
        states = {}
        for h in still:
            own = [name for name in names if name[0] == h and chance.random() < 0.8]
            things = [(name, chance.choice((0, 0, 0, 1, 2)), self.some(chance, names, 0.15)) for name in own]
            far = self.some(chance, [name for name in names if name[0] != h], 0.2)
            records = [(name, chance.choice((0, 1, 1, 2))) for name in far]
            states[h] = house(self.some(chance, names, 0.05), things, records)
        return states

    def some(self, chance, names, share):
        return tuple(name for name in names if chance.random() < share)

    def test_just_the_expected_ones_are_found(self):
        chance = random.Random(17)
        sizes = set()
        for again in range(4000):
            states = self.some_states(chance)
            told = unreached(states)
            self.assertEqual(told, expected(states), states)
            sizes.add(len(told))
        self.assertGreater(len(sizes), 5)


if __name__ == "__main__":
    unittest.main()
