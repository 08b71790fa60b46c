import copy
import itertools
import unittest

from farhold.errors import NoHouse, NoInquiry, NoLetter, NotHeld
from farhold.worlds import World
from helper import SIXTY, WorldTest, all_come, states, ticks

EMPTY = ((), (), ())


def kinds(world):
    return [letter[1:] for letter in world.letters()]


def come(world, kind, inquiry=None, sender=None, goal=None):
    """All letters of this kind, and of this inquiry, sender or goal where they are named, come; what went by them."""
    went = []
    for letter in world.letters():
        if letter[1] != kind or goal not in (None, letter[3]) or sender not in (None, letter[2]):
            continue
        if inquiry is None or letter[4][0] == inquiry:
            went.extend(world.deliver(letter[0]))
    return went


class RingTest(WorldTest):
    def ring(self, many, share=4, houses=(0, 1)):
        """A world with a ring of things across these houses, which no hand holds any more."""
        world = World(many, share)
        ring = [world.make(h) for h in houses]
        for a, b in zip(ring, ring[1:] + ring[:1]):
            self.held_far(world, a, b)
        for thing in ring:
            world.free(thing[0], thing)
        self.assertEqual(world.letters(), [])
        return world, ring


class StepsTest(RingTest):
    def test_an_inquiry_from_its_beginning_to_its_end(self):
        world, ring = self.ring(3)
        first = world.send(2, 2, world.make(2)) + 1
        world.deliver(first - 1)
        self.assertEqual(self.risen(world, [], "ask", 2), 1)
        self.assertEqual(world.letters(), [(first + h, "ask", 2, h, (1, 1)) for h in range(3)])
        for h in range(3):
            self.assertEqual(self.risen(world, [], "deliver", first + h), [first + 3 + h])
        self.assertEqual(world.letters(), [(first + 3 + h, "answer", h, 2, (1, 1)) for h in range(3)])
        self.assertEqual(self.risen(world, [], "deliver", first + 3), [])
        self.assertEqual(self.risen(world, [], "deliver", first + 4), [])
        self.assertEqual(self.risen(world, [], "deliver", first + 5), [first + 6, first + 7, first + 8])
        self.assertEqual(world.letters(), [(first + 6 + h, "ask", 2, h, (1, 2)) for h in range(3)])
        for h in range(3):
            self.assertEqual(self.risen(world, [], "deliver", first + 6 + h), [first + 9 + h])
        self.assertEqual(world.letters(), [(first + 9 + h, "answer", h, 2, (1, 2)) for h in range(3)])
        world.deliver(first + 9)
        world.deliver(first + 10)
        self.assertEqual(world.inquiry(1), (False, ()))
        self.assertEqual(self.risen(world, [], "deliver", first + 11), [first + 12, first + 13, first + 14])
        self.assertEqual(world.inquiry(1), (True, ((0, 0), (1, 0))))
        self.assertEqual(world.letters(), [
            (first + 12, "let", 2, 0, ((0, 0),)), (first + 13, "let", 2, 1, ((1, 0),)), (first + 14, "let", 2, 2, ()),
        ])
        self.assertEqual(self.risen(world, [0], "deliver", first + 12), [first + 15])
        self.assertEqual(self.risen(world, [1], "deliver", first + 13), [first + 16])
        self.assertEqual(self.risen(world, [2], "deliver", first + 14), [])
        self.assertEqual(world.letters(), [
            (first + 15, "back", 0, 1, ((1, 0), 4)), (first + 16, "back", 1, 0, ((0, 0), 4)),
        ])
        self.assertEqual(all_come(world), 2)
        self.assertEqual(states(world), [EMPTY, EMPTY, (((2, 0),), (((2, 0), 0, ()),), ())])
        self.assertEqual(world.inquiry(1), (True, ((0, 0), (1, 0))))

    def test_states_stay_until_the_let_letters_come(self):
        world, ring = self.ring(2)
        ahead = states(world), ticks(world)
        world.ask(0)
        for kind in ("ask", "answer", "ask", "answer"):
            come(world, kind)
            self.assertEqual((states(world), ticks(world)), ahead)
        self.assertEqual(kinds(world), [("let", 0, 0, (ring[0],)), ("let", 0, 1, (ring[1],))])

    def test_one_house(self):
        world = World(1, 2)
        kept, loose = world.make(0), world.make(0)
        world.hold(0, loose, kept)
        world.free(0, loose)
        self.assertEqual(world.ask(0), 1)
        self.assertEqual(all_come(world), 5)
        self.assertEqual(world.state(0), ((kept,), ((kept, 0, ()),), ()))
        self.assertEqual(world.inquiry(1), (True, (loose,)))

    def test_twelve_houses(self):
        world, ring = self.ring(12, SIXTY, tuple(range(12)))
        self.assertEqual(world.ask(11), 1)
        self.assertEqual(world.letters()[0], (13, "ask", 11, 0, (1, 1)))
        self.assertEqual(all_come(world, last_first=True), 12 * 5 + 12)
        self.assertEqual(states(world), [EMPTY] * 12)
        self.assertEqual(world.inquiry(1), (True, tuple(sorted(ring))))

    def test_two_hundred_things_in_a_row_across_twelve_houses(self):
        world = World(12, 2)
        row = [world.make(number % 12) for number in range(200)]
        for a, b in zip(row, row[1:]):
            self.held_far(world, a, b)
        for thing in row[1:]:
            world.free(thing[0], thing)
        world.ask(3)
        self.assertEqual(all_come(world), 12 * 5)
        self.assertEqual(world.inquiry(1), (True, ()))
        world.free(0, row[0])
        world.ask(7)
        self.assertEqual(all_come(world, last_first=True), 12 * 5 + 199)
        self.assertEqual(world.inquiry(2), (True, tuple(sorted(row))))
        self.assertEqual(states(world), [EMPTY] * 12)

    def test_somewhat_beyond_the_bounds_nothing_is_refused(self):
        world, ring = self.ring(13, 10 ** 64, tuple(range(13)))
        world.ask(12)
        self.assertEqual(all_come(world), 13 * 5 + 13)
        self.assertEqual(world.inquiry(1), (True, tuple(ring)))

    def test_a_let_letter_tells_the_things_sorted(self):
        world = World(2, 2)
        for again in range(12):
            world.make(1)
        for number in (10, 2, 9, 11):
            world.free(1, (1, number))
        world.ask(0)
        for kind in ("ask", "answer", "ask", "answer"):
            come(world, kind)
        found = ((1, 2), (1, 9), (1, 10), (1, 11))
        self.assertEqual(kinds(world), [("let", 0, 0, ()), ("let", 0, 1, found)])
        self.assertEqual(world.inquiry(1), (True, found))

    def test_kinds_of_what_is_told(self):
        world, ring = self.ring(2)
        self.assertIs(type(world.ask(1)), int)
        self.assertIs(world.inquiry(1)[0], False)
        all_come(world)
        told = world.inquiry(1)
        self.assertIs(told[0], True)
        self.assertEqual([type(told), type(told[1]), type(told[1][0])], [tuple] * 3)

    def test_where_no_thing_is_found_let_letters_go_all_the_same(self):
        world = World(2, 2)
        world.make(0)
        world.ask(1)
        for kind in ("ask", "answer", "ask", "answer"):
            come(world, kind)
        self.assertEqual(kinds(world), [("let", 1, 0, ()), ("let", 1, 1, ())])
        self.assertEqual(world.inquiry(1), (True, ()))
        self.risen(world, [0], "deliver", world.letters()[0][0])
        self.risen(world, [1], "deliver", world.letters()[0][0])

    def test_records_that_nobody_holds_go_with_a_let_letter_of_none(self):
        world = World(2, 6)
        kept, other = world.make(0), world.make(0)
        self.sent(world, 0, 1, other)
        self.sent(world, 0, 1, kept)
        world.free(1, kept)
        world.free(1, other)
        world.ask(0)
        for kind in ("ask", "answer", "ask", "answer"):
            come(world, kind)
        number = world.letters()[-1][0]
        self.assertEqual(world.letters()[-1], (number, "let", 0, 1, ()))
        self.assertEqual(world.deliver(number), [number + 1, number + 2])
        self.assertEqual(kinds(world)[1:], [("back", 1, 0, (kept, 6)), ("back", 1, 0, (other, 6))])
        all_come(world)
        self.assertEqual(world.state(1), EMPTY)
        self.assertEqual(self.out(world, kept), 0)


class StoodStillTest(RingTest):
    """Deeds at each moment of an inquiry; the ring lies in houses 0 and 1, house 2 has a thing that is let free."""

    STEPS = (
        ("asked", "ask", 1), ("answered", "answer", 1), ("asked again", "ask", 2), ("answered again", "answer", 2),
    )

    def found(self, busy, moment):
        """What is found where a deed is done in the busy house right behind the moment."""
        world, ring = self.ring(3)
        world.make(2)
        world.free(2, (2, 0))
        world.ask(2)
        if moment == "begun":
            world.make(busy)
        for name, kind, turn in self.STEPS:
            self.assertEqual({letter[1] for letter in world.letters()}, {kind})
            self.assertEqual({letter[4] for letter in world.letters()}, {(1, turn)})
            come(world, kind)
            if moment == name:
                world.make(busy)
        self.assertIs(world.inquiry(1)[0], True)
        found = world.inquiry(1)[1]
        abouts = [letter[4] for letter in world.letters() if letter[1] == "let"]
        self.assertEqual(abouts, [tuple(thing for thing in found if thing[0] == h) for h in range(3)])
        all_come(world)
        self.assertEqual(set(self.things(world)) & set(found), set())
        return found

    def test_a_deed_ahead_of_the_first_question_or_behind_the_second(self):
        for busy in range(3):
            for moment in ("begun", "asked again", "answered again"):
                self.assertEqual(self.found(busy, moment), ((0, 0), (1, 0), (2, 0)), (busy, moment))

    def test_a_deed_between_the_first_question_and_the_second(self):
        for moment in ("asked", "answered"):
            self.assertEqual(self.found(0, moment), ((2, 0),))
            self.assertEqual(self.found(1, moment), ((2, 0),))
            self.assertEqual(self.found(2, moment), ((0, 0), (1, 0)))

    def test_no_house_stood_still(self):
        world, ring = self.ring(2)
        world.ask(0)
        come(world, "ask")
        world.clean(0)
        world.clean(1)
        for kind in ("answer", "ask", "answer"):
            come(world, kind)
        self.assertEqual(world.inquiry(1), (True, ()))
        self.assertEqual(kinds(world), [("let", 0, 0, ()), ("let", 0, 1, ())])
        all_come(world)
        self.assertEqual(self.things(world), ring)

    def test_refusals_questions_and_asking_leave_a_house_still(self):
        world, ring = self.ring(2)
        world.ask(0)
        come(world, "ask")
        for h in (0, 1):
            world.ask(h)
            world.state(h)
            world.tick(h)
            self.refused(world, NotHeld, "free", h, (5, 5))
            self.refused(world, NotHeld, "send", h, 1 - h, ring[h])
        come(world, "ask")
        come(world, "answer", 1)
        come(world, "ask", 1)
        come(world, "answer", 1)
        self.assertEqual(world.inquiry(1), (True, tuple(ring)))

    def test_every_kind_of_letter_of_deeds_ends_the_standing_still(self):
        for kind in ("hold", "pass", "more", "back"):
            world = World(3, 2)
            thing = world.make(0)
            self.sent(world, 0, 1, thing)
            world.send(1, 0, thing)
            if kind in ("pass", "more"):
                number = world.send(1, 0, thing)
                world.free(1, thing)
                goal = 0
            if kind == "more":
                number = world.deliver(number)[0]
                goal = 1
            if kind == "hold":
                number, goal = world.letters()[0][0], 0
            if kind == "back":
                world.free(1, thing)
                number, goal = world.clean(1)[0], 0
            loose = [world.make(h) for h in range(3)]
            for h in range(3):
                world.free(h, loose[h])
            self.assertEqual([letter[1] for letter in world.letters() if letter[0] == number], [kind])
            world.ask(2)
            come(world, "ask")
            self.risen(world, [goal], "deliver", number)
            for other in ("answer", "ask", "answer"):
                come(world, other)
            self.assertEqual(world.inquiry(1), (True, tuple(loose[h] for h in range(3) if h != goal)), kind)

    def test_a_let_letter_of_another_inquiry_ends_the_standing_still(self):
        world, ring = self.ring(2)
        world.ask(0)
        for kind in ("ask", "answer", "ask", "answer"):
            come(world, kind)
        world.ask(1)
        come(world, "ask", 2)
        self.assertEqual(len(come(world, "let", goal=0)), 1)
        for kind in ("answer", "ask", "answer"):
            come(world, kind)
        self.assertEqual(world.inquiry(2), (True, ()))

    def test_the_tick_and_the_state_are_those_of_the_moment_when_the_question_came(self):
        world = World(2, 4)
        one, other = world.make(0), world.make(1)
        world.ask(0)
        come(world, "ask")
        world.free(0, one)
        come(world, "answer")
        come(world, "ask")
        world.free(1, other)
        come(world, "answer")
        self.assertEqual(world.inquiry(1), (True, ()))
        all_come(world)
        self.assertEqual(self.things(world), [one, other])

    def test_a_house_asked_late_tells_what_it_is_then(self):
        world = World(2, 4)
        one, other = world.make(0), world.make(1)
        world.ask(0)
        come(world, "ask", goal=1)
        world.free(0, one)
        come(world, "ask", goal=0)
        come(world, "answer")
        come(world, "ask", goal=0)
        come(world, "answer")
        world.free(1, other)
        come(world, "ask", goal=1)
        come(world, "answer")
        self.assertEqual(world.inquiry(1), (True, (one,)))


class WeightElsewhereTest(RingTest):
    def inquired(self, world):
        """All letters of an inquiry come, and those that go by its let letters, but no other ones; what was found."""
        n = world.ask(0)
        for kind in ("ask", "answer", "ask", "answer"):
            come(world, kind, n)
        self.assertIs(world.inquiry(n)[0], True)
        for number in come(world, "let"):
            world.deliver(number)
        return world.inquiry(n)[1]

    def test_in_a_hold_letter(self):
        world = World(2, 4)
        thing, held = world.make(0), world.make(0)
        world.hold(0, thing, held)
        number = world.send(0, 1, thing)
        world.free(0, thing)
        world.free(0, held)
        self.assertEqual(self.inquired(world), ())
        world.deliver(number)
        self.assertEqual(world.state(1)[0], (thing,))
        self.assertEqual(self.inquired(world), ())
        world.free(1, thing)
        self.assertEqual(self.inquired(world), (thing, held))

    def test_in_a_pass_letter_and_in_a_more_letter(self):
        for goal in range(3):
            world = World(3, 2)
            thing = world.make(0)
            self.sent(world, 0, 1, thing)
            self.sent(world, 1, 0, thing)
            world.free(0, thing)
            number = world.send(1, goal, thing)
            world.free(1, thing)
            world.clean(1)
            self.assertEqual(self.inquired(world), ())
            went = world.deliver(number)
            if goal != 0:
                world.deliver(went[0])
            world.free(goal, thing)
            self.assertEqual(world.letters()[-1][1], "more")
            self.assertEqual(self.inquired(world), ())
            world.deliver(went[-1])
            self.assertEqual(self.inquired(world), (thing,))

    def test_in_a_back_letter(self):
        world = World(2, 4)
        thing = world.make(0)
        self.sent(world, 0, 1, thing)
        world.free(0, thing)
        world.free(1, thing)
        number = world.clean(1)[0]
        self.assertEqual(self.inquired(world), ())
        world.deliver(number)
        self.assertEqual(self.inquired(world), (thing,))

    def test_in_a_record_of_a_house_that_did_not_stand_still(self):
        world = World(3, 4)
        things = [world.make(0), world.make(0)]
        world.hold(0, things[0], things[1])
        self.sent(world, 0, 1, things[0])
        world.free(0, things[0])
        world.free(0, things[1])
        world.ask(0)
        come(world, "ask")
        world.free(1, things[0])
        for kind in ("answer", "ask", "answer"):
            come(world, kind)
        self.assertEqual(world.inquiry(1), (True, ()))
        all_come(world)
        self.assertEqual(self.inquired(world), tuple(things))

    def test_a_record_of_nought_keeps_what_it_holds(self):
        world = World(3, 2)
        thing, holder = world.make(0), world.make(1)
        self.held_far(world, holder, thing)
        world.free(0, thing)
        world.take(1, holder, thing)
        self.sent(world, 1, 2, thing)
        number = world.send(1, 2, thing)
        world.free(1, thing)
        self.assertEqual(self.record(world, 1, thing), 0)
        self.assertEqual(self.inquired(world), ())
        world.deliver(number)
        all_come(world)
        self.assertEqual(self.inquired(world), ())
        world.free(2, thing)
        self.assertEqual(self.inquired(world), ())
        world.free(1, holder)
        self.assertEqual(self.inquired(world), (thing, holder))


class LateLetLettersTest(RingTest):
    def test_things_that_were_cleaned_away_in_between(self):
        world = World(2, 4)
        things = [world.make(0) for again in range(3)]
        world.free(0, things[0])
        world.free(0, things[1])
        world.ask(1)
        for kind in ("ask", "answer", "ask", "answer"):
            come(world, kind)
        world.clean(0)
        self.assertEqual(self.things(world), [things[2]])
        self.assertEqual(world.make(0), (0, 3))
        ahead = states(world)
        self.risen(world, [0], "deliver", world.letters()[0][0])
        self.assertEqual(states(world), ahead)
        self.assertEqual(world.inquiry(1), (True, (things[0], things[1])))

    def test_deeds_and_other_inquiries_in_between(self):
        world, ring = self.ring(3)
        world.ask(2)
        for kind in ("ask", "answer", "ask", "answer"):
            come(world, kind)
        late = [letter[0] for letter in world.letters()]
        fresh = [world.make(h) for h in range(3)]
        for h in range(3):
            self.sent(world, h, (h + 1) % 3, fresh[h])
            world.clean(h)
        world.ask(0)
        for letter in world.letters():
            if letter[0] not in late:
                world.deliver(letter[0])
        self.assertEqual(self.things(world), sorted(ring + fresh))
        for number in reversed(late):
            world.deliver(number)
        self.assertEqual(self.things(world), fresh)
        all_come(world)
        self.assertEqual(self.things(world), fresh)


class SeveralInquiriesTest(RingTest):
    def test_numbered_from_one_on(self):
        world = World(3, 2)
        self.assertEqual([self.risen(world, [], "ask", h) for h in (2, 0, 0, 1)], [1, 2, 3, 4])
        self.assertEqual([letter[1:] for letter in world.letters()], [
            ("ask", h, goal, (n, 1)) for n, h in ((1, 2), (2, 0), (3, 0), (4, 1)) for goal in range(3)
        ])
        all_come(world)
        self.assertEqual(world.ask(1), 5)

    def test_each_goes_its_own_way(self):
        world, ring = self.ring(2)
        world.ask(0)
        world.ask(1)
        come(world, "ask", 2)
        come(world, "ask", 1)
        loose = world.make(0)
        world.free(0, loose)
        world.ask(0)
        come(world, "ask", 3)
        come(world, "answer", 3)
        come(world, "answer", 1)
        self.assertEqual(kinds(world)[-2:], [("ask", 0, 0, (1, 2)), ("ask", 0, 1, (1, 2))])
        come(world, "ask", 3)
        come(world, "answer", 3)
        self.assertEqual([world.inquiry(n)[0] for n in (1, 2, 3)], [False, False, True])
        self.assertEqual(world.inquiry(3)[1], (ring[0], loose, ring[1]))
        come(world, "ask", 1)
        come(world, "answer", 1)
        self.assertEqual([world.inquiry(n) for n in (1, 2)], [(True, ()), (False, ())])
        come(world, "answer", 2)
        self.assertEqual(kinds(world)[-2:], [("ask", 1, 0, (2, 2)), ("ask", 1, 1, (2, 2))])
        come(world, "ask", 2)
        come(world, "answer", 2)
        self.assertEqual(world.inquiry(2), (True, ()))
        all_come(world)
        self.assertEqual(self.things(world), [])

    def test_two_find_the_same_things(self):
        world, ring = self.ring(2)
        world.ask(0)
        world.ask(0)
        for again in range(2):
            come(world, "ask")
            come(world, "answer")
        self.assertEqual([world.inquiry(n) for n in (1, 2)], [(True, tuple(ring))] * 2)
        self.assertEqual(len(world.letters()), 4)
        self.assertEqual(all_come(world), 6)
        self.assertEqual(states(world), [EMPTY, EMPTY])

    def test_second_answers_of_the_one_ahead_of_first_answers_of_the_other(self):
        world, ring = self.ring(2)
        world.ask(1)
        world.ask(0)
        come(world, "ask", 1)
        come(world, "answer", 1)
        come(world, "ask")
        self.assertEqual([letter[4] for letter in world.letters()].count((1, 2)), 2)
        self.assertEqual([letter[4] for letter in world.letters()].count((2, 1)), 2)
        come(world, "answer", sender=1)
        self.assertEqual([world.inquiry(n)[0] for n in (1, 2)], [False, False])
        come(world, "answer", sender=0)
        self.assertEqual([world.inquiry(n)[0] for n in (1, 2)], [True, False])


class EveryOrderTest(RingTest):
    def ends(self, world):
        """What the world tells in the end, for every order in which its letters may come; how many letters came."""
        reached, ahead = [], [(world, 0)]
        while ahead:
            here, came = ahead.pop()
            numbers = [letter[0] for letter in here.letters()]
            if not numbers:
                reached.append((here, came))
            for n in numbers:
                there = copy.deepcopy(here)
                there.deliver(n)
                ahead.append((there, came + 1))
        return reached

    def test_one_inquiry_whose_letters_come_in_any_order(self):
        world, ring = self.ring(2)
        kept, held = world.make(0), world.make(1)
        self.held_far(world, kept, held)
        world.free(1, held)
        world.ask(1)
        ends = self.ends(world)
        self.assertEqual(len(ends), 6 * 6 * 6)
        for end, came in ends:
            self.assertEqual(came, 5 * 2 + 2)
            self.assertEqual(self.things(end), [kept, held])
            self.assertEqual(end.inquiry(1), (True, tuple(ring)))
            self.assertEqual(end.state(0), ((kept,), ((kept, 0, (held,)),), ((held, 4),)))
            self.assertEqual(end.state(1), ((), ((held, 4, ()),), ()))

    def test_first_answers_of_three_houses_in_any_order(self):
        world, ring = self.ring(3, 4, (0, 1, 2))
        for order in itertools.permutations(range(3)):
            here = copy.deepcopy(world)
            here.ask(0)
            for kind in ("ask", "answer", "ask", "answer"):
                numbers = [letter[0] for letter in here.letters()]
                went = [here.deliver(numbers[place]) for place in order]
                if kind == "answer":
                    self.assertEqual([len(numbers) for numbers in went], [0, 0, 3])
            self.assertEqual(here.inquiry(1), (True, tuple(ring)))

    def test_refusals_amid_an_inquiry_change_nothing(self):
        world, ring = self.ring(2)
        world.ask(0)
        while world.letters():
            self.refused(world, NoHouse, "ask", 2)
            self.refused(world, NoLetter, "deliver", 0)
            self.refused(world, NotHeld, "free", 0, ring[0])
            self.refused(world, NoInquiry, "inquiry", 2)
            world.deliver(world.letters()[0][0])


if __name__ == "__main__":
    unittest.main()
