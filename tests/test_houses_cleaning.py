import itertools
import unittest

from farhold.errors import NotHeld
from farhold.houses import House
from helper import SIXTY, HouseTest


def chained(pairs, lent=(), many=6):
    """A house of so many things whose hand holds none, by number: pairs, which holds which; lent, which have an out."""
    house = House(0)
    things = [house.make() for again in range(many)]
    for a, b in pairs:
        house.hold(things[a], things[b])
    for number in lent:
        house.part(things[number], 2)
    for thing in things:
        house.free(thing)
    return house, things


class CleanThingsTest(HouseTest):
    def left(self, house):
        self.assertEqual(self.ticked(house, "clean"), [])
        return [number for place, number in self.things(house)]

    def test_what_nobody_holds_goes(self):
        self.assertEqual(self.left(chained([])[0]), [])

    def test_what_the_hand_holds_stays(self):
        house = House(0)
        for again in range(3):
            house.make()
        house.free((0, 1))
        self.assertEqual(self.left(house), [0, 2])

    def test_reached_from_the_hand_over_several_holds(self):
        house, things = chained([(0, 1), (1, 2), (2, 3), (4, 5)], lent=(0,))
        house.came(things[0], 2)
        self.assertEqual(self.left(house), [0, 1, 2, 3])

    def test_reached_from_a_thing_with_an_out(self):
        house = chained([(1, 2), (2, 3), (0, 1)], lent=(1,))[0]
        self.assertEqual(self.left(house), [1, 2, 3])

    def test_an_out_of_one_is_above_nought(self):
        house = House(0)
        thing = house.make()
        house.part(thing, 2)
        house.free(thing)
        house.given(thing, 1)
        self.assertEqual(self.left(house), [0])
        house.given(thing, 1)
        self.assertEqual(self.left(house), [])

    def test_rings_that_are_reached_stay_and_others_go(self):
        house = chained([(0, 1), (1, 0), (2, 3), (3, 4), (4, 2), (5, 5)], lent=(3,))[0]
        self.assertEqual(self.left(house), [2, 3, 4])

    def test_holders_of_what_is_reached_are_not_reached(self):
        house = chained([(0, 2), (1, 2)], lent=(2,))[0]
        self.assertEqual(self.left(house), [2])

    def test_holds_of_things_that_are_left_stay(self):
        house = House(0)
        one, other, third = house.make(), house.make(), house.make()
        house.hold(one, other)
        house.hold(other, one)
        house.free(other)
        house.free(third)
        self.assertEqual(house.clean(), [])
        self.assertEqual(house.state(), ((one,), ((one, 0, (other,)), (other, 0, (one,))), ()))

    def test_the_way_does_not_go_over_far_things(self):
        house = House(0)
        one, other = house.make(), house.make()
        house.came((1, 0), 4)
        house.came((1, 1), 4)
        house.hold(one, (1, 1))
        house.hold(other, (1, 0))
        house.free(other)
        house.free((1, 1))
        self.assertEqual(house.clean(), [])
        self.assertEqual(self.things(house), [one])

    def test_two_hundred_things_in_a_row(self):
        house, things = chained([(number, number + 1) for number in range(199)], lent=(0,), many=200)
        self.assertEqual(len(self.left(house)), 200)
        house.given(things[0], 2)
        self.assertEqual(self.left(house), [])

    def test_what_is_gone_is_a_thing_no_more(self):
        house, things = chained([(0, 1)])
        house.clean()
        for thing in things:
            self.refused(house, NotHeld, "free", thing)
            self.refused(house, NotHeld, "hold", thing, thing)


class CleanEveryHouseOfThreeTest(unittest.TestCase):
    """All houses of three things, whatever holds what, and for each thing whether the hand holds it or it has an out."""

    PAIRS = tuple(itertools.product(range(3), repeat=2))

    def expected(self, pairs, roots):
        left = set(roots)
        for again in range(3):
            left |= {b for a, b in pairs if a in left}
        return sorted(left)

    def built(self, pairs, sorts):
        house = House(0)
        things = [house.make() for again in range(3)]
        for a, b in pairs:
            house.hold(things[a], things[b])
        for thing, sort in zip(things, sorts):
            if sort == "out":
                house.part(thing, 2)
            if sort != "hand":
                house.free(thing)
        return house

    def test_just_the_reached_ones_are_left(self):
        for bits in range(2 ** 9):
            pairs = [pair for place, pair in enumerate(self.PAIRS) if bits >> place & 1]
            for sorts in itertools.product(("none", "hand", "out"), repeat=3):
                house = self.built(pairs, sorts)
                house.clean()
                left = [told[0][1] for told in house.state()[1]]
                roots = [number for number in range(3) if sorts[number] != "none"]
                self.assertEqual(left, self.expected(pairs, roots), (pairs, sorts))


class CleanRecordsTest(HouseTest):
    def test_records_held_by_the_hand_stay(self):
        house = House(0)
        house.came((1, 0), 4)
        self.assertEqual(house.clean(), [])
        self.assertEqual(house.state(), (((1, 0),), (), (((1, 0), 4),)))

    def test_records_held_by_a_thing_that_is_left_stay(self):
        house = House(0)
        one, other = house.make(), house.make()
        house.came((1, 0), 4)
        house.hold(other, (1, 0))
        house.hold(one, other)
        house.free((1, 0))
        house.free(other)
        self.assertEqual(house.clean(), [])
        self.assertEqual(house.state()[2], (((1, 0), 4),))

    def test_records_held_by_a_thing_that_goes_now_go_with_it(self):
        house = House(0)
        thing = house.make()
        house.came((1, 0), 4)
        house.hold(thing, (1, 0))
        house.free((1, 0))
        house.free(thing)
        self.assertEqual(house.clean(), [((1, 0), 4)])
        self.assertEqual(house.state(), ((), (), ()))

    def test_records_held_by_a_thing_with_an_out_stay(self):
        house = House(0)
        thing = house.make()
        house.came((1, 0), 4)
        house.hold(thing, (1, 0))
        house.part(thing, 2)
        house.free((1, 0))
        house.free(thing)
        self.assertEqual(house.clean(), [])
        self.assertEqual(house.state(), ((), ((thing, 2, ((1, 0),)),), (((1, 0), 4),)))

    def test_records_that_nobody_holds_go(self):
        house = House(0)
        house.added((1, 0), 4)
        house.came((2, 0), 1)
        house.free((2, 0))
        self.assertEqual(house.clean(), [((1, 0), 4), ((2, 0), 1)])
        self.assertEqual(house.state()[2], ())

    def test_a_record_of_nought_that_nobody_holds_goes_and_is_not_told(self):
        house = House(0)
        house.came((1, 0), 1)
        house.part((1, 0), 2)
        self.assertEqual(house.clean(), [])
        self.assertEqual(house.state()[2], (((1, 0), 0),))
        house.free((1, 0))
        house.added((1, 1), 2)
        self.assertEqual(house.clean(), [((1, 1), 2)])
        self.assertEqual(house.state()[2], ())

    def test_a_record_may_come_again(self):
        house = House(0)
        house.added((1, 0), 4)
        house.clean()
        house.added((1, 0), 3)
        self.assertEqual(house.state()[2], (((1, 0), 3),))

    def test_what_is_told_is_sorted(self):
        house = House(5)
        for thing in ((10, 2), (9, 10), (2, 0), (9, 9), (10, 1)):
            house.added(thing, 7)
        told = house.clean()
        self.assertEqual(told, [((2, 0), 7), ((9, 9), 7), ((9, 10), 7), ((10, 1), 7), ((10, 2), 7)])
        self.assertIs(type(told), list)
        self.assertEqual({type(pair) for pair in told}, {tuple})

    def test_a_second_cleaning_tells_nothing(self):
        house = House(0)
        house.added((1, 0), SIXTY)
        self.assertEqual(house.clean(), [((1, 0), SIXTY)])
        self.assertEqual(self.ticked(house, "clean"), [])

    def test_what_was_told_is_the_askers_own(self):
        house = House(0)
        house.added((1, 0), 4)
        told = house.clean()
        house.added((1, 0), 5)
        again = house.clean()
        self.assertEqual(told, [((1, 0), 4)])
        told.clear()
        again.append(3)
        self.assertEqual(house.clean(), [])


class LetTest(HouseTest):
    def test_things_go_whatever_their_outs_are(self):
        house, things = chained([(0, 1), (1, 0)], lent=(1,))
        self.assertEqual(self.ticked(house, "let", (things[0], things[1])), [])
        self.assertEqual(self.things(house), things[2:])

    def test_a_thing_that_is_not_there_among_them(self):
        house, things = chained([])
        house.let((things[3],))
        self.assertEqual(house.let(((0, -1), things[3], things[1], (0, 6), (0, SIXTY))), [])
        self.assertEqual(self.things(house), [things[0], things[2], things[4], things[5]])

    def test_no_other_thing_goes_reached_or_not(self):
        house, things = chained([(0, 1), (2, 3)], lent=(4,))
        state = house.state()
        house.let((things[0],))
        self.assertEqual(house.state(), (state[0], state[1][1:], state[2]))

    def test_records_are_given_back_as_by_cleaning(self):
        house = House(0)
        gone, left, unreached = house.make(), house.make(), house.make()
        for number in (10, 9, 3, 2, 1):
            house.came((1, number), number)
        house.part((1, 1), 2)
        house.hold(gone, (1, 10))
        house.hold(gone, (1, 9))
        house.hold(gone, (1, 3))
        house.hold(left, (1, 3))
        house.hold(unreached, (1, 2))
        for number in (10, 9, 3, 2, 1):
            house.free((1, number))
        house.free(gone)
        house.free(unreached)
        told = self.ticked(house, "let", (gone,))
        self.assertEqual(told, [((1, 9), 9), ((1, 10), 10)])
        self.assertIs(type(told), list)
        self.assertEqual(house.state()[2], (((1, 2), 2), ((1, 3), 3)))
        self.assertEqual(self.things(house), [left, unreached])
        self.assertEqual(house.let((gone,)), [])

    def test_for_no_things_at_all_records_still_go(self):
        house, things = chained([(0, 1)])
        house.came((1, 1), 5)
        house.added((1, 0), 4)
        self.assertEqual(self.ticked(house, "let", ()), [((1, 0), 4)])
        self.assertEqual(self.things(house), things)
        self.assertEqual(house.state()[0], ((1, 1),))
        self.assertEqual(house.state()[2], (((1, 1), 5),))

    def test_a_record_of_nought_goes_and_is_not_told(self):
        house = House(0)
        house.came((1, 0), 1)
        house.part((1, 0), 2)
        house.free((1, 0))
        self.assertEqual(house.let(()), [])
        self.assertEqual(house.state(), ((), (), ()))

    def test_what_was_told_is_the_askers_own(self):
        house = House(0)
        house.added((1, 0), 4)
        told = house.let(())
        house.added((1, 0), 5)
        house.let(())
        self.assertEqual(told, [((1, 0), 4)])


if __name__ == "__main__":
    unittest.main()
