import unittest

from farhold.errors import Missing, NotHeld, NotNear
from farhold.houses import House
from helper import SIXTY, HouseTest

FAR = (5, 0)


def furnished():
    """House 1: the hand holds three things and a far one; the first thing holds the second."""
    house = House(1)
    things = [house.make() for again in range(3)]
    house.came(FAR, 8)
    house.hold(things[0], things[1])
    return house, things


class MakeTest(HouseTest):
    def test_a_new_house_has_nothing(self):
        self.assertEqual(House(3).state(), ((), (), ()))
        self.assertEqual(House(3).tick(), 0)

    def test_things_are_numbered_from_nought_on(self):
        house = House(4)
        self.assertEqual([house.make() for again in range(12)], [(4, number) for number in range(12)])

    def test_a_thing_is_a_tuple_of_whole_numbers(self):
        thing = House(0).make()
        self.assertIs(type(thing), tuple)
        self.assertEqual([type(number) for number in thing], [int, int])

    def test_the_hand_holds_the_new_thing_which_holds_nothing(self):
        house = House(2)
        thing = house.make()
        self.assertEqual(house.state(), ((thing,), ((thing, 0, ()),), ()))

    def test_no_number_comes_again_behind_things_that_are_gone(self):
        house = House(0)
        first, second = house.make(), house.make()
        house.free(second)
        house.clean()
        self.assertEqual(self.things(house), [first])
        self.assertEqual(house.make(), (0, 2))
        house.free((0, 2))
        house.free(first)
        house.let(((0, 2), first))
        self.assertEqual(house.state(), ((), (), ()))
        self.assertEqual(house.make(), (0, 3))

    def test_two_houses_do_not_touch_one_another(self):
        one, other = House(0), House(1)
        thing = one.make()
        one.came((1, 7), 3)
        one.hold(thing, (1, 7))
        self.assertEqual(other.state(), ((), (), ()))
        self.assertEqual(other.tick(), 0)
        self.assertEqual(other.make(), (1, 0))
        self.assertEqual(one.tick(), 3)

    def test_two_houses_of_one_number_do_not_touch_one_another(self):
        one, other = House(0), House(0)
        one.make()
        self.assertEqual(other.make(), (0, 0))
        other.free((0, 0))
        self.assertEqual(one.state()[0], ((0, 0),))

    def test_a_house_number_of_sixty_figures(self):
        house = House(SIXTY)
        thing = house.make()
        self.assertEqual(thing, (SIXTY, 0))
        house.hold(thing, thing)
        self.assertEqual(house.part(thing, 2), 2)


class HoldTest(HouseTest):
    def test_a_thing_gets_hold_of_what_the_hand_holds(self):
        house, things = furnished()
        self.assertIsNone(self.ticked(house, "hold", things[1], things[2]))
        self.assertEqual(self.holds(house, things[1]), (things[2],))
        self.assertEqual(house.state()[0], (*things, FAR))

    def test_held_already_is_done_all_the_same(self):
        house, things = furnished()
        state = house.state()
        self.assertIsNone(self.ticked(house, "hold", things[0], things[1]))
        self.assertEqual(house.state(), state)
        house.drop(things[0], things[1])
        self.assertEqual(self.holds(house, things[0]), ())

    def test_a_thing_may_hold_itself(self):
        house, things = furnished()
        house.hold(things[2], things[2])
        self.assertEqual(self.holds(house, things[2]), (things[2],))

    def test_a_near_thing_holds_a_far_one(self):
        house, things = furnished()
        house.hold(things[0], FAR)
        self.assertEqual(self.holds(house, things[0]), (things[1], FAR))
        self.assertEqual(house.state()[2], ((FAR, 8),))

    def test_not_held(self):
        house, things = furnished()
        house.free(things[2])
        for a, b in ((things[2], things[0]), (things[0], things[2]), (things[2], things[2])):
            self.refused(house, NotHeld, "hold", a, b)

    def test_things_never_made_or_of_another_house_or_gone(self):
        house, things = furnished()
        house.free(things[2])
        house.clean()
        for strange in ((1, 3), (1, -1), (0, 0), (-1, 0), (5, 1), (1, SIXTY), (SIXTY, 0), things[2]):
            self.refused(house, NotHeld, "hold", strange, things[0])
            self.refused(house, NotHeld, "hold", things[0], strange)

    def test_not_near(self):
        house, things = furnished()
        self.refused(house, NotNear, "hold", FAR, things[0])
        self.refused(house, NotNear, "hold", FAR, FAR)

    def test_not_held_comes_ahead_of_not_near(self):
        house, things = furnished()
        self.refused(house, NotHeld, "hold", FAR, (1, 9))
        self.refused(house, NotHeld, "hold", (7, 7), things[0])


class DropTest(HouseTest):
    def test_a_thing_drops_what_it_holds(self):
        house, things = furnished()
        house.hold(things[0], FAR)
        self.assertIsNone(self.ticked(house, "drop", things[0], things[1]))
        self.assertEqual(self.holds(house, things[0]), (FAR,))
        self.assertEqual(house.state()[0], (*things, FAR))
        self.assertEqual(self.things(house), things)

    def test_the_hand_need_not_hold_what_is_dropped(self):
        house, things = furnished()
        house.free(things[1])
        house.drop(things[0], things[1])
        self.assertEqual(self.holds(house, things[0]), ())
        self.assertEqual(self.things(house), things)

    def test_itself_and_a_far_one(self):
        house, things = furnished()
        house.hold(things[2], things[2])
        house.hold(things[2], FAR)
        house.drop(things[2], things[2])
        house.free(FAR)
        house.drop(things[2], FAR)
        self.assertEqual(self.holds(house, things[2]), ())
        self.assertEqual(house.state()[2], ((FAR, 8),))

    def test_dropped_twice_is_missing(self):
        house, things = furnished()
        house.drop(things[0], things[1])
        self.refused(house, Missing, "drop", things[0], things[1])


class TakeTest(HouseTest):
    def test_the_hand_takes_hold_of_what_a_thing_holds(self):
        house, things = furnished()
        house.free(things[1])
        self.assertEqual(house.state()[0], (things[0], things[2], FAR))
        self.assertIsNone(self.ticked(house, "take", things[0], things[1]))
        self.assertEqual(house.state()[0], (*things, FAR))
        self.assertEqual(self.holds(house, things[0]), (things[1],))

    def test_held_already_is_done_all_the_same(self):
        house, things = furnished()
        state = house.state()
        self.assertIsNone(self.ticked(house, "take", things[0], things[1]))
        self.assertEqual(house.state(), state)
        house.free(things[1])
        self.assertNotIn(things[1], house.state()[0])

    def test_itself_and_a_far_one(self):
        house, things = furnished()
        house.hold(things[2], things[2])
        house.hold(things[2], FAR)
        house.free(FAR)
        house.take(things[2], FAR)
        house.take(things[2], things[2])
        self.assertEqual(house.state()[0], (*things, FAR))
        self.assertEqual(house.state()[2], ((FAR, 8),))


class DropAndTakeRefusalsTest(HouseTest):
    def test_not_held(self):
        house, things = furnished()
        house.free(things[0])
        for method in ("drop", "take"):
            self.refused(house, NotHeld, method, things[0], things[1])

    def test_not_near(self):
        house, things = furnished()
        for method in ("drop", "take"):
            self.refused(house, NotNear, method, FAR, things[0])

    def test_missing(self):
        house, things = furnished()
        for method in ("drop", "take"):
            for b in (things[0], things[2], FAR, (1, 3), (1, -1), (0, 0), (9, SIXTY)):
                self.refused(house, Missing, method, things[0], b)

    def test_the_first_one_due_is_told(self):
        house, things = furnished()
        house.free(things[2])
        for method in ("drop", "take"):
            self.refused(house, NotHeld, method, (7, 7), (7, 8))
            self.refused(house, NotHeld, method, things[2], things[0])
            self.refused(house, NotNear, method, FAR, (7, 8))

    def test_things_never_made_or_gone(self):
        house, things = furnished()
        house.free(things[2])
        house.clean()
        for method in ("drop", "take"):
            for strange in ((1, 3), (1, -1), (0, 0), things[2]):
                self.refused(house, NotHeld, method, strange, things[1])


class FreeTest(HouseTest):
    def test_the_hand_lets_free_what_it_holds(self):
        house, things = furnished()
        self.assertIsNone(self.ticked(house, "free", things[0]))
        self.assertEqual(house.state()[0], (things[1], things[2], FAR))
        self.assertEqual(self.holds(house, things[0]), (things[1],))

    def test_what_nobody_holds_stays_until_it_is_cleaned_away(self):
        house, things = furnished()
        house.free(things[2])
        house.free(FAR)
        self.assertEqual(self.things(house), things)
        self.assertEqual(house.state()[2], ((FAR, 8),))

    def test_not_held(self):
        house, things = furnished()
        house.free(things[1])
        for strange in (things[1], (1, 3), (1, -1), (0, 0), (5, 1), (SIXTY, SIXTY)):
            self.refused(house, NotHeld, "free", strange)


class TickTest(HouseTest):
    def test_each_method_that_ticks_raises_it_by_one(self):
        house = House(0)
        one, other = self.ticked(house, "make"), self.ticked(house, "make")
        self.ticked(house, "hold", one, other)
        self.ticked(house, "take", one, other)
        self.ticked(house, "part", one, 4)
        self.ticked(house, "came", one, 1)
        self.ticked(house, "given", one, 1)
        self.ticked(house, "passed", one, 4, True)
        self.ticked(house, "passed", one, 4, False)
        self.ticked(house, "came", (1, 1), 3)
        self.ticked(house, "added", (1, 1), 3)
        self.ticked(house, "part", (1, 1), 4)
        self.ticked(house, "drop", one, other)
        self.ticked(house, "free", other)
        self.ticked(house, "clean")
        self.ticked(house, "let", (other,))
        self.assertEqual(house.tick(), 16)

    def test_it_rises_also_where_nothing_else_is_otherwise(self):
        house = House(0)
        self.ticked(house, "clean")
        self.ticked(house, "let", ())
        self.ticked(house, "let", ((0, 5),))
        self.ticked(house, "given", (0, 5), 2)
        self.assertEqual(house.state(), ((), (), ()))
        self.assertEqual(house.tick(), 4)

    def test_asking_does_not_raise_it(self):
        house, things = furnished()
        tick = house.tick()
        for again in range(3):
            house.state()
            self.assertEqual(house.tick(), tick)


if __name__ == "__main__":
    unittest.main()
