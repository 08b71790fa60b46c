import itertools
import unittest

from farhold.worlds import World
from helper import SIXTY, WorldTest, all_come, states

EMPTY = ((), (), ())


class HoldComesTest(WorldTest):
    def test_a_far_thing(self):
        world = World(3, 8)
        thing = world.make(0)
        number = world.send(0, 2, thing)
        self.assertEqual(self.risen(world, [2], "deliver", number), [])
        self.assertEqual(world.state(2), ((thing,), (), ((thing, 8),)))
        self.assertEqual(world.state(0), ((thing,), ((thing, 8, ()),), ()))
        self.assertEqual(world.state(1), EMPTY)
        self.assertEqual(world.letters(), [])

    def test_weight_is_added_to_the_record(self):
        world = World(2, 8)
        thing = world.make(0)
        for again in range(3):
            self.sent(world, 0, 1, thing)
        self.assertEqual(world.state(1), ((thing,), (), ((thing, 24),)))

    def test_home_again_its_out_falls_by_the_weight(self):
        world = World(2, 9)
        thing = world.make(0)
        self.sent(world, 0, 1, thing)
        world.free(0, thing)
        number = world.send(1, 0, thing)
        self.assertEqual(self.risen(world, [0], "deliver", number), [])
        self.assertEqual(world.state(0), ((thing,), ((thing, 5, ()),), ()))

    def test_sent_to_the_same_house(self):
        world = World(2, 9)
        thing = world.make(0)
        number = world.send(0, 0, thing)
        world.free(0, thing)
        self.assertEqual(world.clean(0), [])
        self.assertEqual(self.risen(world, [0], "deliver", number), [])
        self.assertEqual(world.state(0), ((thing,), ((thing, 0, ()),), ()))
        self.sent(world, 0, 1, thing)
        self.sent(world, 1, 1, thing)
        self.assertEqual(world.state(1), ((thing,), (), ((thing, 9),)))

    def test_the_record_comes_anew_where_it_went_in_between(self):
        world = World(2, 9)
        thing = world.make(0)
        self.sent(world, 0, 1, thing)
        number = world.send(1, 1, thing)
        world.free(1, thing)
        self.assertEqual(world.clean(1), [3])
        self.assertEqual(world.state(1), EMPTY)
        world.deliver(number)
        self.assertEqual(world.state(1), ((thing,), (), ((thing, 4),)))


class PassComesTest(WorldTest):
    def passing(self, sender, goal, share=2):
        """A thing of house 0, of which the sender has no weight left, is passed on; the number of the pass letter."""
        world = World(4, share)
        thing = world.make(0)
        self.sent(world, 0, sender, thing)
        while self.record(world, sender, thing) > 1:
            self.sent(world, sender, 0, thing)
        world.free(0, thing)
        self.assertEqual(self.out(world, thing), 1)
        return world, thing, world.send(sender, goal, thing)

    def test_to_the_house_of_the_thing(self):
        for share in (2, 9, SIXTY):
            world, thing, number = self.passing(2, 0, share)
            self.assertEqual(world.letters(), [(number, "pass", 2, 0, (thing, 0))])
            went = self.risen(world, [0], "deliver", number)
            self.assertEqual(went, [number + 1])
            self.assertIs(type(went), list)
            self.assertEqual(world.letters(), [(number + 1, "more", 0, 2, (thing, share))])
            self.assertEqual(world.state(0), ((thing,), ((thing, share, ()),), ()))
            self.assertEqual(world.state(2), ((thing,), (), ((thing, 0),)))

    def test_to_another_house(self):
        for share in (2, 9, SIXTY):
            world, thing, number = self.passing(2, 3, share)
            self.assertEqual(self.risen(world, [0], "deliver", number), [number + 1, number + 2])
            self.assertEqual(world.letters(), [
                (number + 1, "hold", 0, 3, (thing, share)), (number + 2, "more", 0, 2, (thing, share)),
            ])
            self.assertEqual(world.state(0), ((), ((thing, 2 * share, ()),), ()))

    def test_to_the_sender_itself(self):
        world, thing, number = self.passing(2, 2, 5)
        self.assertEqual(self.risen(world, [0], "deliver", number), [number + 1, number + 2])
        self.assertEqual(world.letters(), [
            (number + 1, "hold", 0, 2, (thing, 5)), (number + 2, "more", 0, 2, (thing, 5)),
        ])
        self.assertEqual(self.out(world, thing), 10)
        all_come(world)
        self.assertEqual(world.state(2), ((thing,), (), ((thing, 10),)))

    def test_of_an_out_of_more_than_one_just_one_falls(self):
        world = World(3, 2)
        thing = world.make(0)
        self.sent(world, 0, 1, thing)
        world.send(1, 2, thing)
        number = world.send(1, 2, thing)
        world.deliver(number)
        self.assertEqual(self.out(world, thing), 2 - 1 + 4)
        self.assertEqual(world.state(0)[0], (thing,))

    def test_the_thing_stays_while_only_the_pass_letter_has_weight_for_it(self):
        world, thing, number = self.passing(1, 3)
        world.free(1, thing)
        self.assertEqual(world.clean(1), [])
        self.assertEqual(world.clean(0), [])
        self.assertEqual(self.things(world), [thing])
        world.deliver(number)
        all_come(world)
        self.assertEqual(world.state(3), ((thing,), (), ((thing, 2),)))


class MoreComesTest(WorldTest):
    def test_weight_comes_to_a_record_of_nought(self):
        world = World(2, 3)
        thing = world.make(0)
        self.sent(world, 0, 1, thing)
        world.send(1, 0, thing)
        world.send(1, 0, thing)
        went = world.deliver(world.send(1, 0, thing))
        self.assertEqual(self.record(world, 1, thing), 0)
        self.assertEqual(self.risen(world, [1], "deliver", went[0]), [])
        self.assertEqual(world.state(1), ((thing,), (), ((thing, 3),)))

    def test_a_record_that_nobody_holds_comes_anew_and_is_given_back(self):
        world = World(2, 2)
        thing = world.make(0)
        self.sent(world, 0, 1, thing)
        world.send(1, 0, thing)
        went = world.deliver(world.send(1, 0, thing))
        world.free(1, thing)
        world.clean(1)
        self.assertEqual(world.state(1), EMPTY)
        self.assertEqual(self.risen(world, [1], "deliver", went[0]), [])
        self.assertEqual(world.state(1), ((), (), ((thing, 2),)))
        self.assertEqual(world.clean(1), [5])
        self.assertEqual(world.letters()[-1], (5, "back", 1, 0, (thing, 2)))
        self.assertEqual(world.state(1), EMPTY)


class BackComesTest(WorldTest):
    def test_the_out_falls_by_the_weight(self):
        world = World(3, 7)
        thing = world.make(0)
        self.sent(world, 0, 1, thing)
        self.sent(world, 1, 2, thing)
        world.free(1, thing)
        number = world.clean(1)[0]
        self.assertEqual(world.letters(), [(number, "back", 1, 0, (thing, 4))])
        self.assertEqual(self.risen(world, [0], "deliver", number), [])
        self.assertEqual(world.state(0), ((thing,), ((thing, 3, ()),), ()))

    def test_the_thing_stays_until_its_house_is_cleaned(self):
        world = World(2, 7)
        thing = world.make(0)
        self.sent(world, 0, 1, thing)
        world.free(0, thing)
        world.free(1, thing)
        number = world.clean(1)[0]
        world.clean(0)
        self.assertEqual(self.things(world), [thing])
        world.deliver(number)
        self.assertEqual(world.state(0), ((), ((thing, 0, ()),), ()))
        self.assertEqual(world.clean(0), [])
        self.assertEqual(world.state(0), EMPTY)

    def test_where_the_thing_is_there_no_more_the_tick_alone_rises(self):
        world = World(2, 7)
        one, other = world.make(0), world.make(1)
        self.held_far(world, one, other)
        self.held_far(world, other, one)
        world.free(0, one)
        world.free(1, other)
        world.ask(0)
        while not world.inquiry(1)[0]:
            world.deliver(world.letters()[0][0])
        lets = [letter[0] for letter in world.letters()]
        back = world.deliver(lets[0])[0]
        self.assertEqual(world.letters()[-1], (back, "back", 0, 1, (other, 7)))
        world.deliver(lets[1])
        self.assertEqual(states(world), [EMPTY, EMPTY])
        self.assertEqual(self.risen(world, [1], "deliver", back), [])
        self.assertEqual(states(world), [EMPTY, EMPTY])


class AnyOrderTest(WorldTest):
    def test_letters_come_in_any_order(self):
        """Five letters for one thing; whatever order they come in, all weight is where it belongs in the end."""
        for order in itertools.permutations(range(2, 7)):
            world = World(3, 5)
            thing = world.make(0)
            self.sent(world, 0, 1, thing)
            for sender, goal in ((0, 2), (1, 2), (0, 1), (1, 1), (1, 0)):
                world.send(sender, goal, thing)
            for n in order:
                self.assertEqual(self.risen(world, [{2: 2, 3: 2, 4: 1, 5: 1, 6: 0}[n]], "deliver", n), [])
            self.assertEqual(world.state(0), ((thing,), ((thing, 14, ()),), ()))
            self.assertEqual(world.state(1), ((thing,), (), ((thing, 7),)))
            self.assertEqual(world.state(2), ((thing,), (), ((thing, 7),)))

    def test_what_was_told_is_the_askers_own(self):
        world = World(3, 2)
        thing = world.make(0)
        self.sent(world, 0, 1, thing)
        world.send(1, 2, thing)
        told = world.deliver(world.send(1, 2, thing))
        kept = list(told)
        told.append(99)
        self.assertEqual([letter[0] for letter in world.letters()], [2, *kept])


if __name__ == "__main__":
    unittest.main()
