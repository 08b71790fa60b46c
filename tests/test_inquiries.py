import itertools
import unittest

from farhold.inquiries import Inquiry
from helper import SIXTY

EMPTY = ((), (), ())


def lone(h, number=0, out=0):
    """The state of a house with one thing that nothing holds."""
    return ((), (((h, number), out, ()),), ())


def answered(states, firsts, seconds):
    inquiry = Inquiry(len(states))
    for h, state in enumerate(states):
        inquiry.first(h, firsts[h], state)
    for h in range(len(states)):
        inquiry.second(h, seconds[h])
    return inquiry


class LastAnswerTest(unittest.TestCase):
    def test_true_with_the_last_one_of_its_sort_alone(self):
        for order in itertools.permutations(range(3)):
            for again in itertools.permutations(range(3)):
                inquiry = Inquiry(3)
                firsts = [inquiry.first(h, 5, EMPTY) for h in order]
                seconds = [inquiry.second(h, 5) for h in again]
                for told in (firsts, seconds):
                    self.assertIs(told[0], False)
                    self.assertIs(told[1], False)
                    self.assertIs(told[2], True)

    def test_one_house(self):
        inquiry = Inquiry(1)
        self.assertIs(inquiry.first(0, 0, EMPTY), True)
        self.assertIs(inquiry.second(0, 0), True)

    def test_twelve_houses(self):
        inquiry = Inquiry(12)
        order = [5, 11, 0, 3, 10, 1, 9, 2, 8, 4, 7, 6]
        self.assertEqual([inquiry.first(h, h, EMPTY) for h in order], [False] * 11 + [True])
        self.assertEqual([inquiry.second(h, h) for h in reversed(order)], [False] * 11 + [True])
        self.assertEqual(inquiry.still(), list(range(12)))


class StillTest(unittest.TestCase):
    def test_where_the_second_tick_is_that_of_the_first(self):
        inquiry = answered([EMPTY] * 4, [3, 4, 0, 7], [3, 5, 0, 9])
        self.assertEqual(inquiry.still(), [0, 2])
        self.assertIs(type(inquiry.still()), list)

    def test_every_house_by_its_own_tick(self):
        self.assertEqual(answered([EMPTY] * 3, [1, 2, 3], [2, 3, 1]).still(), [])
        self.assertEqual(answered([EMPTY] * 3, [1, 2, 3], [1, 2, 3]).still(), [0, 1, 2])

    def test_a_lower_tick_is_not_that_of_the_first(self):
        self.assertEqual(answered([EMPTY] * 2, [4, 4], [3, 4]).still(), [1])

    def test_sixty_figures(self):
        self.assertEqual(answered([EMPTY] * 3, [SIXTY] * 3, [SIXTY, SIXTY - 1, SIXTY]).still(), [0, 2])

    def test_rising_in_whatever_order_answers_came(self):
        for order in itertools.permutations(range(4)):
            inquiry = Inquiry(4)
            for h in order:
                inquiry.first(h, 8, EMPTY)
            for h in reversed(order):
                inquiry.second(h, 9 if h == 1 else 8)
            self.assertEqual(inquiry.still(), [0, 2, 3])

    def test_the_list_is_the_askers_own(self):
        inquiry = answered([lone(0), lone(1)], [1, 1], [1, 1])
        told = inquiry.still()
        told.clear()
        self.assertEqual(inquiry.still(), [0, 1])
        self.assertEqual(inquiry.result(), ((0, 0), (1, 0)))


class ResultTest(unittest.TestCase):
    def test_all_houses_stood_still(self):
        self.assertEqual(answered([lone(0), lone(1, 4)], [2, 5], [2, 5]).result(), ((0, 0), (1, 4)))

    def test_no_house_stood_still(self):
        self.assertEqual(answered([lone(0), lone(1)], [2, 5], [3, 6]).result(), ())
        self.assertIs(type(answered([EMPTY], [0], [1]).result()), tuple)

    def test_things_of_other_houses_are_not_found(self):
        self.assertEqual(answered([lone(0), lone(1), lone(2)], [2, 5, 1], [2, 6, 1]).result(), ((0, 0), (2, 0)))

    def test_records_of_other_houses_do_not_count(self):
        states = [lone(0, out=3), ((), (), (((0, 0), 3),))]
        self.assertEqual(answered(states, [2, 5], [2, 5]).result(), ((0, 0),))
        self.assertEqual(answered(states, [2, 5], [2, 6]).result(), ())

    def test_hands_of_other_houses_do_not_count(self):
        states = [lone(0), (((0, 0),), (), (((0, 0), 0),))]
        self.assertEqual(answered(states, [2, 5], [2, 5]).result(), ())
        self.assertEqual(answered(states, [2, 5], [2, 6]).result(), ((0, 0),))

    def test_a_ring_across_houses(self):
        one = ((), (((0, 0), 4, ((1, 0),)),), (((1, 0), 6),))
        other = ((), (((1, 0), 6, ((0, 0),)),), (((0, 0), 4),))
        self.assertEqual(answered([one, other, EMPTY], [2, 5, 7], [2, 5, 8]).result(), ((0, 0), (1, 0)))
        self.assertEqual(answered([one, other, EMPTY], [2, 5, 7], [3, 5, 7]).result(), ())

    def test_the_state_is_that_of_the_house_whatever_the_order(self):
        states = [lone(0), (((1, 0),), (((1, 0), 0, ()),), ()), lone(2, 3)]
        for order in itertools.permutations(range(3)):
            inquiry = Inquiry(3)
            for h in order:
                inquiry.first(h, h, states[h])
            for h in order:
                inquiry.second(h, h)
            self.assertEqual(inquiry.result(), ((0, 0), (2, 3)))

    def test_asked_again_it_is_the_same(self):
        inquiry = answered([lone(0), lone(1)], [2, 5], [2, 5])
        self.assertEqual(inquiry.result(), inquiry.result())

    def test_two_inquiries_do_not_touch_one_another(self):
        one, other = Inquiry(2), Inquiry(2)
        self.assertIs(one.first(0, 1, lone(0)), False)
        self.assertIs(other.first(1, 1, EMPTY), False)
        self.assertIs(other.first(0, 2, EMPTY), True)
        self.assertIs(one.first(1, 1, EMPTY), True)
        for inquiry, tick in ((one, 1), (other, 1)):
            inquiry.second(0, tick)
            inquiry.second(1, tick)
        self.assertEqual((one.still(), one.result()), ([0, 1], ((0, 0),)))
        self.assertEqual((other.still(), other.result()), ([1], ()))


if __name__ == "__main__":
    unittest.main()
