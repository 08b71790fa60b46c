"""What several test files share."""

import unittest

from farhold.errors import NoHouse, NoInquiry

SIXTY = 10 ** 60 - 1


class RefusalTest(unittest.TestCase):
    def refused_alike(self, tell, error, call, *handed):
        """The call is refused with this very class, and what is told is not otherwise by it."""
        ahead = tell()
        with self.assertRaises(error) as caught:
            call(*handed)
        self.assertIs(type(caught.exception), error, handed)
        self.assertEqual(tell(), ahead)


class HouseTest(RefusalTest):
    def refused(self, house, error, method, *handed):
        self.refused_alike(lambda: (house.state(), house.tick()), error, getattr(house, method), *handed)

    def ticked(self, house, method, *handed):
        """The call raises the tick by just one; what it answered."""
        tick = house.tick()
        answer = getattr(house, method)(*handed)
        self.assertEqual(house.tick(), tick + 1, method)
        self.assertIs(type(house.tick()), int)
        return answer

    def out(self, house, thing):
        return {told[0]: told[1] for told in house.state()[1]}[thing]

    def holds(self, house, thing):
        return {told[0]: told[2] for told in house.state()[1]}[thing]

    def things(self, house):
        return [told[0] for told in house.state()[1]]


def told_until(error, ask, number):
    told = []
    while True:
        try:
            told.append(ask(number + len(told)))
        except error:
            return told


def states(world):
    return told_until(NoHouse, world.state, 0)


def ticks(world):
    return told_until(NoHouse, world.tick, 0)


def whole(world):
    """All that a world tells."""
    return states(world), ticks(world), world.letters(), told_until(NoInquiry, world.inquiry, 1)


def all_come(world, last_first=False):
    """All letters come until none is on its way; how many they were."""
    many = 0
    while world.letters():
        world.deliver(world.letters()[-1 if last_first else 0][0])
        many += 1
    return many


class WorldTest(RefusalTest):
    def refused(self, world, error, method, *handed):
        self.refused_alike(lambda: whole(world), error, getattr(world, method), *handed)

    def risen(self, world, risen, method, *handed):
        """The call raises by one the ticks of just these houses; what it answered."""
        ahead = ticks(world)
        answer = getattr(world, method)(*handed)
        expected = [tick + risen.count(h) for h, tick in enumerate(ahead)]
        self.assertEqual(ticks(world), expected, (method, handed))
        return answer

    def out(self, world, thing):
        return {told[0]: told[1] for told in world.state(thing[0])[1]}[thing]

    def holds(self, world, thing):
        return {told[0]: told[2] for told in world.state(thing[0])[1]}[thing]

    def record(self, world, h, thing):
        return dict(world.state(h)[2]).get(thing)

    def things(self, world):
        return [told[0] for state in states(world) for told in state[1]]

    def sent(self, world, h, g, b):
        """The thing is sent and the letter comes."""
        self.assertEqual(world.deliver(world.send(h, g, b)), [])

    def held_far(self, world, a, b):
        """The thing a gets hold of b, which lies in another house, and the hand there lets b free."""
        self.sent(world, b[0], a[0], b)
        world.hold(a[0], a, b)
        world.free(a[0], b)
