"""An inquiry: the answers of all houses, asked twice, and what is found by them."""

from farhold.finding import unreached


class Inquiry:
    def __init__(self, many):
        self.many = many
        self.states = {}
        self.first_ticks = {}
        self.second_ticks = {}

    def first(self, h, tick, state):
        self.first_ticks[h] = tick
        self.states[h] = state
        return len(self.first_ticks) == self.many

    def second(self, h, tick):
        self.second_ticks[h] = tick
        return len(self.second_ticks) == self.many

    def still(self):
        # All second questions went behind the last first answer, so these houses were alike at that one moment.
        return [h for h in sorted(self.first_ticks) if self.first_ticks[h] == self.second_ticks[h]]

    def result(self):
        states = {}
        for h in self.still():
            states[h] = self.states[h]
        return unreached(states)
