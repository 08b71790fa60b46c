"""A desk: rows of text, answered with texts by a world."""

from farhold.errors import Missing, NoRow
from farhold.worlds import World

FORMS = {
    "make": ("number",),
    "hold": ("number", "thing", "thing"),
    "drop": ("number", "thing", "thing"),
    "take": ("number", "thing", "thing"),
    "free": ("number", "thing"),
    "send": ("number", "number", "thing"),
    "clean": ("number",),
    "ask": ("number",),
    "come": ("number",),
    "hand": ("number",),
    "things": ("number",),
    "holds": ("thing",),
    "post": (),
    "found": ("number",),
}


class Desk:
    def __init__(self, many, share):
        self.world = World(many, share)

    def say(self, row):
        words = row.split(" ")
        verb = words[0]
        given = read_words(verb, words[1:])
        if verb in ("hold", "drop", "take", "free"):
            self.move(verb, given)
            return "ok"
        if verb in ("make", "send", "ask", "clean", "come"):
            return self.act(verb, given)
        return self.look(verb, given)

    def move(self, verb, given):
        if verb == "hold":
            self.world.hold(given[0], given[1], given[2])
        elif verb == "drop":
            self.world.drop(given[0], given[1], given[2])
        elif verb == "take":
            self.world.take(given[0], given[1], given[2])
        else:
            self.world.free(given[0], given[1])

    def act(self, verb, given):
        if verb == "make":
            return written_thing(self.world.make(given[0]))
        if verb == "send":
            return str(self.world.send(given[0], given[1], given[2]))
        if verb == "ask":
            return str(self.world.ask(given[0]))
        if verb == "clean":
            return listed([str(number) for number in self.world.clean(given[0])])
        return listed([str(number) for number in self.world.deliver(given[0])])

    def look(self, verb, given):
        if verb == "hand":
            return listed_things(self.world.state(given[0])[0])
        if verb == "things":
            return listed_things([told[0] for told in self.world.state(given[0])[1]])
        if verb == "holds":
            return listed_things(self.held_by(given[0]))
        if verb == "found":
            return listed_things(self.world.inquiry(given[0])[1])
        return listed([written_letter(letter) for letter in self.world.letters()])

    def held_by(self, a):
        for thing, out, held in self.world.state(a[0])[1]:
            if thing == a:
                return held
        raise Missing("the thing is not there")


def read_words(verb, words):
    forms = FORMS.get(verb)
    if forms is None or len(words) != len(forms):
        raise NoRow("the row is none of those that a desk answers")
    return [read_word(form, word) for form, word in zip(forms, words)]


def read_word(form, word):
    if form == "number":
        return read_number(word)
    parts = word.split(".")
    if len(parts) != 2:
        raise NoRow("a thing is written as two numbers with a point between")
    return (read_number(parts[0]), read_number(parts[1]))


def read_number(word):
    # Figures are looked up one by one, as isdigit takes figures of other scripts, too.
    plain = [sign for sign in word if sign in "0123456789"]
    if len(plain) != len(word) or len(word) < 1 or len(word) > 9:
        raise NoRow("a number is written by one to nine figures")
    if word[0] == "0" and word != "0":
        raise NoRow("a number has no nought ahead")
    return int(word)


def written_thing(thing):
    return ".".join([str(number) for number in thing])


def written_letter(letter):
    return ":".join([str(part) for part in letter[:4]])


def listed(words):
    return " ".join(words) if words else "none"


def listed_things(things):
    return listed([written_thing(thing) for thing in things])
