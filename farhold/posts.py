"""A post: the letters on their way, each with its number."""

from farhold.errors import NoLetter


class Post:
    def __init__(self):
        self.latest = 0
        self.waiting = {}

    def put(self, kind, sender, goal, about):
        self.latest += 1
        self.waiting[self.latest] = (self.latest, kind, sender, goal, about)
        return self.latest

    def letters(self):
        # Numbers only rise, so the order in which letters were put in is the order of their numbers.
        return list(self.waiting.values())

    def taken(self, n):
        if n not in self.waiting:
            raise NoLetter("no letter in the post has this number")
        return self.waiting.pop(n)
