import unittest

from farhold.errors import NotHeld, NoWeight
from farhold.houses import House
from helper import SIXTY, HouseTest

FAR = (5, 0)


def holding(weight):
    """A house whose hand holds a far thing, with a record of this weight."""
    house = House(0)
    house.came(FAR, weight)
    return house


class PartTest(HouseTest):
    def test_of_a_near_thing_the_out_rises_by_the_share(self):
        house = House(0)
        thing, other = house.make(), house.make()
        self.assertEqual(self.ticked(house, "part", thing, 8), 8)
        self.assertEqual(self.out(house, thing), 8)
        self.assertEqual(self.ticked(house, "part", thing, 2), 2)
        self.assertEqual(self.out(house, thing), 10)
        self.assertEqual(house.state(), ((thing, other), ((thing, 10, ()), (other, 0, ())), ()))

    def test_of_a_record_the_half_goes(self):
        for weight, stays, goes in ((2, 1, 1), (3, 2, 1), (4, 2, 2), (5, 3, 2), (64, 32, 32), (99, 50, 49)):
            house = holding(weight)
            told = self.ticked(house, "part", FAR, 7)
            self.assertEqual(told, goes)
            self.assertIs(type(told), int)
            self.assertEqual(house.state(), ((FAR,), (), ((FAR, stays),)))

    def test_of_a_record_of_one_the_one_goes_and_the_record_stays(self):
        house = holding(1)
        self.assertEqual(self.ticked(house, "part", FAR, 7), 1)
        self.assertEqual(house.state(), ((FAR,), (), ((FAR, 0),)))

    def test_of_a_record_of_nought_it_is_refused(self):
        house = holding(1)
        house.part(FAR, 7)
        self.refused(house, NoWeight, "part", FAR, 7)

    def test_parted_again_and_again_until_nothing_is_left(self):
        house = holding(11)
        self.assertEqual([house.part(FAR, 7) for again in range(5)], [5, 3, 1, 1, 1])
        self.refused(house, NoWeight, "part", FAR, 7)
        house.added(FAR, 4)
        self.assertEqual(house.part(FAR, 7), 2)

    def test_not_held(self):
        house = holding(4)
        thing = house.make()
        house.free(thing)
        house.added((6, 0), 3)
        for strange in (thing, (0, 1), (0, -1), (5, 1), (6, 0), (SIXTY, 0)):
            self.refused(house, NotHeld, "part", strange, 7)

    def test_not_held_comes_ahead_of_no_weight(self):
        house = holding(1)
        house.part(FAR, 7)
        house.free(FAR)
        self.refused(house, NotHeld, "part", FAR, 7)

    def test_other_records_and_outs_stay(self):
        house = holding(4)
        house.came((5, 1), 6)
        thing = house.make()
        house.part(FAR, 7)
        self.assertEqual(house.state()[2], ((FAR, 2), ((5, 1), 6)))
        self.assertEqual(self.out(house, thing), 0)

    def test_sixty_figures(self):
        house = holding(SIXTY)
        thing = house.make()
        self.assertEqual(house.part(FAR, 2), 5 * 10 ** 59 - 1)
        self.assertEqual(house.state()[2], ((FAR, 5 * 10 ** 59),))
        house.part(thing, SIXTY)
        self.assertEqual(house.part(thing, SIXTY), SIXTY)
        self.assertEqual(self.out(house, thing), 2 * SIXTY)
        self.assertIsNone(house.came(thing, 2 * SIXTY))
        self.assertEqual(self.out(house, thing), 0)


class CameTest(HouseTest):
    def test_a_near_thing_is_held_and_its_out_falls(self):
        house = House(0)
        thing = house.make()
        house.part(thing, 9)
        house.free(thing)
        self.assertIsNone(self.ticked(house, "came", thing, 4))
        self.assertEqual(house.state(), ((thing,), ((thing, 5, ()),), ()))
        self.assertIsNone(self.ticked(house, "came", thing, 5))
        self.assertEqual(house.state(), ((thing,), ((thing, 0, ()),), ()))

    def test_a_far_thing_is_held_and_its_record_comes(self):
        house = House(0)
        self.assertIsNone(self.ticked(house, "came", FAR, 4))
        self.assertEqual(house.state(), ((FAR,), (), ((FAR, 4),)))

    def test_weight_is_added_to_a_record(self):
        house = holding(4)
        house.free(FAR)
        self.ticked(house, "came", FAR, 3)
        self.assertEqual(house.state(), ((FAR,), (), ((FAR, 7),)))

    def test_weight_comes_to_a_record_of_nought(self):
        house = holding(1)
        house.part(FAR, 2)
        house.came(FAR, 3)
        self.assertEqual(house.state(), ((FAR,), (), ((FAR, 3),)))

    def test_a_thing_of_the_same_number_in_another_house_is_far(self):
        house = House(0)
        near = house.make()
        house.came((1, 0), 3)
        self.assertEqual(house.state(), ((near, (1, 0)), ((near, 0, ()),), (((1, 0), 3),)))


class AddedTest(HouseTest):
    def test_a_record_comes_anew_that_nobody_holds(self):
        house = House(0)
        self.assertIsNone(self.ticked(house, "added", FAR, 6))
        self.assertEqual(house.state(), ((), (), ((FAR, 6),)))

    def test_weight_is_added_to_a_record(self):
        house = holding(1)
        house.part(FAR, 2)
        self.ticked(house, "added", FAR, 6)
        self.assertEqual(house.state(), ((FAR,), (), ((FAR, 6),)))
        self.ticked(house, "added", FAR, SIXTY)
        self.assertEqual(house.state(), ((FAR,), (), ((FAR, SIXTY + 6),)))


class GivenTest(HouseTest):
    def test_the_out_falls(self):
        house = House(0)
        thing, other = house.make(), house.make()
        house.part(thing, 9)
        house.part(other, 9)
        house.free(thing)
        self.assertIsNone(self.ticked(house, "given", thing, 4))
        self.assertEqual(house.state(), ((other,), ((thing, 5, ()), (other, 9, ())), ()))
        self.ticked(house, "given", thing, 5)
        self.assertEqual(self.out(house, thing), 0)
        self.assertEqual(self.things(house), [thing, other])

    def test_of_a_thing_never_made_or_gone_the_tick_alone_rises(self):
        house = House(0)
        kept, gone = house.make(), house.make()
        house.part(gone, 9)
        house.free(gone)
        house.let((gone,))
        state = house.state()
        for strange in (gone, (0, 2), (0, -1), (0, SIXTY)):
            self.assertIsNone(self.ticked(house, "given", strange, 3))
            self.assertEqual(house.state(), state)
        self.assertEqual(self.things(house), [kept])


class PassedTest(HouseTest):
    def test_mine_the_hand_holds_it_and_one_share_is_out(self):
        house = House(0)
        thing = house.make()
        house.part(thing, 9)
        house.free(thing)
        self.assertIsNone(self.ticked(house, "passed", thing, 5, True))
        self.assertEqual(house.state(), ((thing,), ((thing, 9 - 1 + 5, ()),), ()))

    def test_not_mine_the_hand_does_not_hold_it_and_two_shares_are_out(self):
        house = House(0)
        thing = house.make()
        house.part(thing, 9)
        house.free(thing)
        self.assertIsNone(self.ticked(house, "passed", thing, 5, False))
        self.assertEqual(house.state(), ((), ((thing, 9 - 1 + 10, ()),), ()))

    def test_what_the_hand_holds_it_goes_on_holding(self):
        for mine, out in ((True, 3), (False, 6)):
            house = House(0)
            thing = house.make()
            house.part(thing, 3)
            house.given(thing, 2)
            house.passed(thing, 3, mine)
            self.assertEqual(house.state(), ((thing,), ((thing, out, ()),), ()))

    def test_sixty_figures(self):
        house = House(0)
        thing = house.make()
        house.part(thing, SIXTY)
        house.passed(thing, SIXTY, False)
        self.assertEqual(self.out(house, thing), 3 * SIXTY - 1)
        house.passed(thing, SIXTY, True)
        self.assertEqual(self.out(house, thing), 4 * SIXTY - 2)


if __name__ == "__main__":
    unittest.main()
