import unittest

from farhold.errors import Missing, NoHouse, NoInquiry, NoLetter, NotHeld, NotNear, NoWeight
from farhold.worlds import World
from helper import SIXTY, WorldTest, states, ticks, whole

EMPTY = ((), (), ())
STRANGE = ((0, 9), (0, -1), (1, 0), (3, 0), (-1, 0), (SIXTY, 0), (0, SIXTY), (-SIXTY, -SIXTY))


class NewWorldTest(WorldTest):
    def test_houses_are_empty_and_numbered_from_nought(self):
        for many in (1, 2, 7, 12):
            world = World(many, 2)
            self.assertEqual(whole(world), ([EMPTY] * many, [0] * many, [], []))
            self.assertEqual([world.make(h) for h in range(many)], [(h, 0) for h in range(many)])

    def test_two_worlds_do_not_touch_one_another(self):
        one, other = World(2, 4), World(2, 6)
        thing = one.make(0)
        one.send(0, 1, thing)
        one.ask(1)
        self.assertEqual(whole(other), ([EMPTY] * 2, [0, 0], [], []))
        other.make(0)
        self.assertEqual(other.send(0, 1, (0, 0)), 1)
        self.assertEqual(other.letters(), [(1, "hold", 0, 1, ((0, 0), 6))])
        self.assertEqual(other.ask(0), 1)


class HandDeedsTest(WorldTest):
    def test_make(self):
        world = World(3, 4)
        self.assertEqual(self.risen(world, [1], "make", 1), (1, 0))
        self.assertEqual(self.risen(world, [1], "make", 1), (1, 1))
        made = self.risen(world, [2], "make", 2)
        self.assertEqual(made, (2, 0))
        self.assertIs(type(made), tuple)
        self.assertEqual(states(world)[0], EMPTY)
        self.assertEqual(states(world)[2], (((2, 0),), (((2, 0), 0, ()),), ()))

    def test_hold_drop_take_and_free(self):
        world = World(2, 4)
        one, other = world.make(1), world.make(1)
        self.assertIsNone(self.risen(world, [1], "hold", 1, one, other))
        self.assertEqual(self.holds(world, one), (other,))
        self.assertIsNone(self.risen(world, [1], "free", 1, other))
        self.assertEqual(world.state(1)[0], (one,))
        self.assertIsNone(self.risen(world, [1], "take", 1, one, other))
        self.assertEqual(world.state(1)[0], (one, other))
        self.assertIsNone(self.risen(world, [1], "drop", 1, one, other))
        self.assertEqual(self.holds(world, one), ())
        self.assertEqual(world.state(0), EMPTY)
        self.assertEqual(world.letters(), [])

    def test_done_already_it_ticks_all_the_same(self):
        world = World(1, 4)
        thing = world.make(0)
        world.hold(0, thing, thing)
        ahead = states(world)
        self.risen(world, [0], "hold", 0, thing, thing)
        self.risen(world, [0], "take", 0, thing, thing)
        self.risen(world, [0], "clean", 0)
        self.assertEqual(states(world), ahead)

    def test_refused_as_by_a_house(self):
        world = World(3, 4)
        near, far = world.make(0), world.make(1)
        loose = world.make(0)
        self.sent(world, 1, 0, far)
        world.free(0, loose)
        for strange in (loose, *[thing for thing in STRANGE if thing != far]):
            self.refused(world, NotHeld, "hold", 0, strange, near)
            self.refused(world, NotHeld, "hold", 0, near, strange)
            self.refused(world, NotHeld, "hold", 0, far, strange)
            self.refused(world, NotHeld, "drop", 0, strange, near)
            self.refused(world, NotHeld, "take", 0, strange, near)
            self.refused(world, NotHeld, "free", 0, strange)
            self.refused(world, Missing, "drop", 0, near, strange)
            self.refused(world, Missing, "take", 0, near, strange)
            self.refused(world, NotNear, "drop", 0, far, strange)
            self.refused(world, NotNear, "take", 0, far, strange)
        self.refused(world, NotNear, "hold", 0, far, near)
        self.refused(world, NotHeld, "free", 1, near)

    def test_asking_changes_nothing(self):
        world = World(2, 4)
        self.sent(world, 0, 1, world.make(0))
        ahead = whole(world)
        for again in range(3):
            self.assertEqual(whole(world), ahead)


class NoHouseTest(WorldTest):
    def test_ahead_of_all_else(self):
        for many in (1, 3):
            world = World(many, 4)
            thing = world.make(0)
            world.hold(0, thing, thing)
            for h in (many, -1, -many, many + 1, 12, SIXTY, -SIXTY):
                for b in (thing, (h, 0), (9, 9)):
                    self.refused(world, NoHouse, "hold", h, b, thing)
                    self.refused(world, NoHouse, "drop", h, thing, b)
                    self.refused(world, NoHouse, "take", h, thing, b)
                    self.refused(world, NoHouse, "free", h, b)
                    self.refused(world, NoHouse, "send", h, 0, b)
                    self.refused(world, NoHouse, "send", 0, h, b)
                    self.refused(world, NoHouse, "send", h, h, b)
                for method in ("make", "clean", "ask", "state", "tick"):
                    self.refused(world, NoHouse, method, h)

    def test_a_goal_that_is_no_house_comes_ahead_of_no_weight(self):
        world = World(2, 2)
        thing = world.make(0)
        self.sent(world, 0, 1, thing)
        world.send(1, 1, thing)
        world.send(1, 1, thing)
        self.assertEqual(self.record(world, 1, thing), 0)
        self.refused(world, NoHouse, "send", 1, 2, thing)
        self.refused(world, NoWeight, "send", 1, 0, thing)

    def test_numbers_go_on_behind_refusals_as_if_there_were_none(self):
        world = World(2, 4)
        thing = world.make(0)
        self.refused(world, NoHouse, "ask", 2)
        self.refused(world, NoHouse, "send", 0, 2, thing)
        self.refused(world, NotHeld, "send", 1, 0, thing)
        self.refused(world, NoHouse, "make", -1)
        self.assertEqual(world.send(0, 1, thing), 1)
        self.assertEqual(world.ask(0), 1)
        self.assertEqual(world.make(1), (1, 0))


class NoLetterAndNoInquiryTest(WorldTest):
    def test_no_letter(self):
        world = World(2, 4)
        self.refused(world, NoLetter, "deliver", 1)
        number = world.send(0, 1, world.make(0))
        for n in (0, -1, 2, 3, SIXTY, -SIXTY):
            self.refused(world, NoLetter, "deliver", n)
        world.deliver(number)
        self.refused(world, NoLetter, "deliver", number)

    def test_no_inquiry(self):
        world = World(2, 4)
        self.refused(world, NoInquiry, "inquiry", 1)
        world.ask(0)
        world.ask(0)
        for n in (0, -1, 3, SIXTY, -SIXTY):
            self.refused(world, NoInquiry, "inquiry", n)
        self.assertEqual([world.inquiry(n) for n in (1, 2)], [(False, ())] * 2)


class SendTest(WorldTest):
    def holding(self, weight, many=3):
        """A world where house 1 holds a thing of house 0 with a record of this weight."""
        world = World(many, weight)
        thing = world.make(0)
        self.sent(world, 0, 1, thing)
        self.assertEqual(self.record(world, 1, thing), weight)
        return world, thing

    def test_a_near_thing(self):
        world = World(3, 8)
        thing = world.make(1)
        for number, goal in ((1, 0), (2, 2), (3, 1)):
            self.assertEqual(self.risen(world, [1], "send", 1, goal, thing), number)
            self.assertEqual(self.out(world, thing), 8 * number)
        self.assertEqual(world.letters(), [
            (1, "hold", 1, 0, (thing, 8)), (2, "hold", 1, 2, (thing, 8)), (3, "hold", 1, 1, (thing, 8)),
        ])
        self.assertEqual(world.state(1)[0], (thing,))
        self.assertEqual((world.state(0), world.state(2)), (EMPTY, EMPTY))

    def test_of_a_record_the_half_goes(self):
        for weight, stays, goes in ((2, 1, 1), (3, 2, 1), (4, 2, 2), (5, 3, 2), (9, 5, 4)):
            for goal in range(3):
                world, thing = self.holding(weight)
                self.assertEqual(self.risen(world, [1], "send", 1, goal, thing), 2)
                self.assertEqual(world.letters(), [(2, "hold", 1, goal, (thing, goes))])
                self.assertEqual(self.record(world, 1, thing), stays)
                self.assertEqual(self.out(world, thing), weight)
                self.assertEqual(world.state(1)[0], (thing,))

    def test_of_a_record_of_one_a_pass_letter_goes_to_the_house_of_the_thing(self):
        for goal in range(3):
            world, thing = self.holding(2)
            world.send(1, 2, thing)
            self.assertEqual(self.risen(world, [1], "send", 1, goal, thing), 3)
            self.assertEqual(world.letters()[1:], [(3, "pass", 1, 0, (thing, goal))])
            self.assertEqual(self.record(world, 1, thing), 0)
            self.assertEqual(self.out(world, thing), 2)
            self.assertEqual(world.state(1)[0], (thing,))

    def test_with_a_record_of_nought_it_is_refused(self):
        world, thing = self.holding(2)
        world.send(1, 2, thing)
        world.send(1, 2, thing)
        for goal in range(3):
            self.refused(world, NoWeight, "send", 1, goal, thing)

    def test_not_held(self):
        world, thing = self.holding(2)
        loose = world.make(0)
        world.free(0, loose)
        for strange in (loose, (0, 5), (0, -1), (1, 0), (7, 7), (SIXTY, SIXTY)):
            for goal in range(3):
                self.refused(world, NotHeld, "send", 0, goal, strange)
        self.refused(world, NotHeld, "send", 2, 1, thing)

    def test_not_held_comes_ahead_of_no_weight(self):
        world, thing = self.holding(2)
        world.send(1, 2, thing)
        world.send(1, 2, thing)
        world.free(1, thing)
        self.refused(world, NotHeld, "send", 1, 2, thing)

    def test_a_share_of_sixty_figures(self):
        world, thing = self.holding(SIXTY)
        world.send(1, 2, thing)
        self.assertEqual(world.letters(), [(2, "hold", 1, 2, (thing, 5 * 10 ** 59 - 1))])
        self.assertEqual(self.record(world, 1, thing), 5 * 10 ** 59)
        world.send(0, 2, thing)
        self.assertEqual(self.out(world, thing), 2 * SIXTY)

    def test_letters_are_the_askers_own(self):
        world, thing = self.holding(4)
        world.send(1, 2, thing)
        told, kept = world.letters(), world.letters()
        self.assertIs(type(told), list)
        told.clear()
        self.assertEqual(world.letters(), kept)
        told = world.letters()
        world.send(1, 2, thing)
        world.deliver(2)
        self.assertEqual(told, kept)


class CleanTest(WorldTest):
    def crowded(self):
        """House 11 holds things of houses 10, 9 and 2, which came in no order; others have nothing on their way."""
        world = World(12, 6)
        for h in (10, 2, 9):
            for number in range(2):
                world.make(h)
        for thing in ((10, 1), (2, 1), (10, 0), (9, 0), (2, 0)):
            self.sent(world, thing[0], 11, thing)
        return world

    def test_a_back_letter_for_each_record_in_the_order_of_the_things(self):
        world = self.crowded()
        for thing in ((10, 1), (10, 0), (9, 0), (2, 1)):
            world.free(11, thing)
        went = self.risen(world, [11], "clean", 11)
        self.assertEqual(went, [6, 7, 8, 9])
        self.assertIs(type(went), list)
        self.assertEqual(world.letters(), [
            (6, "back", 11, 2, ((2, 1), 6)), (7, "back", 11, 9, ((9, 0), 6)),
            (8, "back", 11, 10, ((10, 0), 6)), (9, "back", 11, 10, ((10, 1), 6)),
        ])
        self.assertEqual(world.state(11), (((2, 0),), (), (((2, 0), 6),)))

    def test_nothing_to_give_back(self):
        world = self.crowded()
        ahead = states(world)
        self.assertEqual(self.risen(world, [11], "clean", 11), [])
        self.assertEqual(self.risen(world, [0], "clean", 0), [])
        self.assertEqual(states(world), ahead)
        self.assertEqual(world.letters(), [])

    def test_a_record_of_nought_goes_without_a_letter(self):
        world = World(2, 2)
        thing = world.make(0)
        self.sent(world, 0, 1, thing)
        world.send(1, 0, thing)
        world.send(1, 0, thing)
        world.free(1, thing)
        self.assertEqual(world.clean(1), [])
        self.assertEqual(world.state(1), EMPTY)

    def test_things_that_are_not_reached_go_and_their_records_with_them(self):
        world = World(2, 6)
        holder, kept, far = world.make(0), world.make(0), world.make(1)
        self.held_far(world, holder, far)
        world.send(0, 1, kept)
        world.free(0, holder)
        world.free(0, kept)
        self.assertEqual(world.clean(0), [3])
        self.assertEqual(world.letters()[1:], [(3, "back", 0, 1, (far, 6))])
        self.assertEqual(world.state(0), ((), ((kept, 6, ()),), ()))
        self.assertEqual(ticks(world)[1], 2)

    def test_what_was_told_is_the_askers_own(self):
        world = self.crowded()
        world.free(11, (9, 0))
        told = world.clean(11)
        told.append(3)
        self.assertEqual(world.clean(11), [])
        self.assertEqual([letter[0] for letter in world.letters()], [6])


if __name__ == "__main__":
    unittest.main()
