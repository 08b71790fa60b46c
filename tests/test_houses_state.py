import unittest

from farhold.houses import House
from helper import HouseTest


def mixed():
    """House 9 with twelve things, and far things of houses 2, 10 and 11, in no order."""
    house = House(9)
    things = [house.make() for again in range(12)]
    for far in ((11, 0), (10, 10), (2, 30), (10, 9), (2, 4)):
        house.came(far, far[0] + far[1])
    for held in (things[10], (10, 9), things[9], (2, 4), things[2], things[0], (10, 10)):
        house.hold(things[0], held)
    house.part(things[11], 6)
    house.free(things[3])
    house.free((2, 30))
    return house


class StateTest(HouseTest):
    def test_hand_is_sorted(self):
        fars = ((10, 9), (10, 10), (11, 0))
        nears = tuple((9, number) for number in range(12) if number != 3)
        self.assertEqual(mixed().state()[0], ((2, 4), *nears, *fars))

    def test_hand_is_sorted_also_where_it_took_hold_anew(self):
        house = mixed()
        house.free((9, 0))
        house.free((2, 4))
        house.passed((9, 11), 2, True)
        house.came((2, 30), 1)
        house.came((2, 4), 1)
        hand = house.state()[0]
        self.assertEqual(list(hand), sorted(hand))
        self.assertEqual(hand[:3], ((2, 4), (2, 30), (9, 1)))

    def test_things_are_sorted_by_number(self):
        things = mixed().state()[1]
        self.assertEqual([told[0] for told in things], [(9, number) for number in range(12)])
        self.assertEqual([told[1] for told in things], [0] * 11 + [6])

    def test_holds_are_sorted(self):
        things = mixed().state()[1]
        holds = ((2, 4), (9, 0), (9, 2), (9, 9), (9, 10), (10, 9), (10, 10))
        self.assertEqual(things[0], ((9, 0), 0, holds))
        self.assertEqual([told[2] for told in things[1:]], [()] * 11)

    def test_records_are_sorted(self):
        records = (((2, 4), 6), ((2, 30), 32), ((10, 9), 19), ((10, 10), 20), ((11, 0), 11))
        self.assertEqual(mixed().state()[2], records)

    def test_records_of_nought_are_told_too(self):
        house = House(0)
        house.came((1, 0), 1)
        house.part((1, 0), 2)
        self.assertEqual(house.state(), (((1, 0),), (), (((1, 0), 0),)))

    def test_tuples_all_through(self):
        self.only_tuples(mixed().state(), 0)
        self.only_tuples(House(0).state(), 0)
        self.assertEqual(len(House(0).state()), 3)

    def only_tuples(self, told, depth):
        if type(told) is not int:
            self.assertIs(type(told), tuple)
            self.assertLess(depth, 6)
            for part in told:
                self.only_tuples(part, depth + 1)

    def test_nothing_done_or_asked_later_changes_it(self):
        house = mixed()
        told = house.state()
        kept = repr(told)
        house.drop((9, 0), (9, 9))
        house.hold((9, 5), (9, 6))
        house.part((9, 5), 3)
        house.added((2, 4), 3)
        house.free((9, 1))
        house.clean()
        self.assertNotEqual(house.state(), told)
        self.assertEqual(repr(told), kept)

    def test_asking_twice_tells_the_same(self):
        house = mixed()
        self.assertEqual(house.state(), house.state())


if __name__ == "__main__":
    unittest.main()
