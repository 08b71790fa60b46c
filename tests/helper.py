"""What several test files share."""

import unittest

SIXTY = 10 ** 60 - 1


class HouseTest(unittest.TestCase):
    def refused(self, house, error, method, *handed):
        """The call is refused with this very class, and neither the state nor the tick is otherwise."""
        state, tick = house.state(), house.tick()
        with self.assertRaises(error) as caught:
            getattr(house, method)(*handed)
        self.assertIs(type(caught.exception), error)
        self.assertEqual(house.state(), state)
        self.assertEqual(house.tick(), tick)

    def ticked(self, house, method, *handed):
        """The call raises the tick by just one; what it answered."""
        tick = house.tick()
        answer = getattr(house, method)(*handed)
        self.assertEqual(house.tick(), tick + 1, method)
        self.assertIs(type(house.tick()), int)
        return answer

    def out(self, house, thing):
        return {told[0]: told[1] for told in house.state()[1]}[thing]

    def holds(self, house, thing):
        return {told[0]: told[2] for told in house.state()[1]}[thing]

    def things(self, house):
        return [told[0] for told in house.state()[1]]
