import random
import unittest

from farhold.desk import Desk
from farhold.errors import HoldError, Missing, NoHouse, NoInquiry, NoLetter, NoRow, NotHeld, NotNear, NoWeight
from farhold.worlds import World
from helper import SIXTY, RefusalTest


class DeskTest(RefusalTest):
    def told(self, desk, many=3):
        """All that a desk tells."""
        rows = ["post"] + [f"{verb} {h}" for verb in ("hand", "things") for h in range(many)]
        answers = [desk.say(row) for row in rows]
        things = [word for row in answers[many + 1:] for word in row.split(" ") if word != "none"]
        return answers + [desk.say(f"holds {thing}") for thing in things]

    def said(self, desk, *pairs):
        for row, answer in pairs:
            told = desk.say(row)
            self.assertEqual(told, answer, row)
            self.assertIs(type(told), str)

    def refused(self, desk, error, *rows):
        for row in rows:
            self.refused_alike(lambda: self.told(desk), error, desk.say, row)


class RowsTest(DeskTest):
    def test_make(self):
        self.said(Desk(3, 4), ("make 0", "0.0"), ("make 0", "0.1"), ("make 2", "2.0"))
        desk = Desk(12, 2)
        self.said(desk, *[("make 11", f"11.{number}") for number in range(13)])

    def test_hold_drop_take_and_free(self):
        desk = Desk(2, 4)
        self.said(desk, ("make 1", "1.0"), ("make 1", "1.1"), ("hold 1 1.0 1.1", "ok"), ("holds 1.0", "1.1"))
        self.said(desk, ("free 1 1.1", "ok"), ("hand 1", "1.0"), ("take 1 1.0 1.1", "ok"), ("hand 1", "1.0 1.1"))
        self.said(desk, ("drop 1 1.0 1.1", "ok"), ("holds 1.0", "none"), ("hold 1 1.1 1.0", "ok"), ("holds 1.1", "1.0"))

    def test_send_and_come(self):
        desk = Desk(3, 2)
        self.said(desk, ("make 0", "0.0"), ("send 0 1 0.0", "1"), ("post", "1:hold:0:1"), ("come 1", "none"))
        self.said(desk, ("hand 1", "0.0"), ("things 1", "none"), ("send 1 2 0.0", "2"), ("send 1 2 0.0", "3"))
        self.said(desk, ("post", "2:hold:1:2 3:pass:1:0"), ("come 3", "4 5"))
        self.said(desk, ("post", "2:hold:1:2 4:hold:0:2 5:more:0:1"))
        self.said(desk, ("come 5", "none"), ("come 2", "none"), ("come 4", "none"), ("post", "none"), ("hand 2", "0.0"))

    def test_clean(self):
        desk = Desk(3, 2)
        self.said(desk, ("make 0", "0.0"), ("make 1", "1.0"), ("send 0 2 0.0", "1"), ("send 1 2 1.0", "2"))
        self.said(desk, ("come 2", "none"), ("come 1", "none"), ("clean 2", "none"), ("hand 2", "0.0 1.0"))
        self.said(desk, ("free 2 1.0", "ok"), ("free 2 0.0", "ok"))
        self.said(desk, ("clean 2", "3 4"), ("post", "3:back:2:0 4:back:2:1"))
        self.said(desk, ("free 0 0.0", "ok"), ("clean 0", "none"), ("things 0", "0.0"), ("come 3", "none"))
        self.said(desk, ("clean 0", "none"), ("things 0", "none"))

    def test_ask_and_found(self):
        desk = Desk(2, 4)
        self.said(desk, ("make 0", "0.0"), ("make 0", "0.1"), ("make 1", "1.0"))
        self.said(desk, ("free 0 0.1", "ok"), ("free 1 1.0", "ok"))
        self.said(desk, ("ask 1", "1"), ("post", "1:ask:1:0 2:ask:1:1"), ("found 1", "none"), ("ask 0", "2"))
        self.said(desk, ("come 1", "5"), ("come 2", "6"), ("come 6", "none"), ("come 5", "7 8"), ("come 7", "9"))
        self.said(desk, ("come 8", "10"), ("post", "3:ask:0:0 4:ask:0:1 9:answer:0:1 10:answer:1:1"))
        self.said(desk, ("found 1", "none"))
        self.said(desk, ("come 9", "none"), ("come 10", "11 12"), ("found 1", "0.1 1.0"), ("found 2", "none"))
        self.said(desk, ("post", "3:ask:0:0 4:ask:0:1 11:let:1:0 12:let:1:1"), ("things 0", "0.0 0.1"))
        self.said(desk, ("come 11", "none"), ("come 12", "none"), ("things 0", "0.0"), ("things 1", "none"))
        self.said(desk, ("found 1", "0.1 1.0"))

    def test_a_let_letter_tells_its_back_letters(self):
        desk = Desk(2, 6)
        self.said(desk, ("make 0", "0.0"), ("make 0", "0.1"), ("send 0 1 0.1", "1"), ("send 0 1 0.0", "2"))
        self.said(desk, ("come 1", "none"), ("come 2", "none"), ("free 1 0.0", "ok"))
        self.said(desk, ("free 1 0.1", "ok"), ("ask 0", "1"))
        for number in range(3, 11):
            desk.say(f"come {number}")
        self.said(desk, ("post", "11:let:0:0 12:let:0:1"), ("come 12", "13 14"))
        self.said(desk, ("post", "11:let:0:0 13:back:1:0 14:back:1:0"))

    def test_things_are_sorted_as_numbers_are(self):
        desk = Desk(12, 4)
        for again in range(11):
            desk.say("make 10")
        desk.say("make 9")
        desk.say("make 2")
        desk.say("come " + desk.say("send 9 10 9.0"))
        desk.say("come " + desk.say("send 2 10 2.0"))
        near = " ".join(f"10.{number}" for number in range(11))
        self.said(desk, ("hand 10", f"2.0 9.0 {near}"), ("things 10", near))
        for held in ("10.10", "2.0", "10.9", "9.0"):
            desk.say(f"hold 10 10.3 {held}")
        self.said(desk, ("holds 10.3", "2.0 9.0 10.9 10.10"))
        for number in (10, 9, 2):
            desk.say(f"free 10 10.{number}")
        desk.say("drop 10 10.3 10.9")
        desk.say("drop 10 10.3 10.10")
        desk.say("ask 0")
        while desk.say("found 1") == "none":
            desk.say("come " + desk.say("post").partition(":")[0])
        self.said(desk, ("found 1", "10.2 10.9 10.10"))

    def test_a_new_desk(self):
        for many in (1, 12):
            desk = Desk(many, 2)
            self.said(desk, ("post", "none"))
            for h in range(many):
                self.said(desk, (f"hand {h}", "none"), (f"things {h}", "none"), (f"clean {h}", "none"))

    def test_two_desks_do_not_touch_one_another(self):
        one, other = Desk(2, 4), Desk(2, 4)
        self.said(one, ("make 0", "0.0"), ("send 0 1 0.0", "1"), ("ask 0", "1"))
        self.said(other, ("hand 0", "none"), ("post", "none"), ("make 0", "0.0"), ("send 0 0 0.0", "1"), ("ask 1", "1"))

    def test_a_share_of_sixty_figures(self):
        desk = Desk(2, SIXTY)
        self.said(desk, ("make 0", "0.0"), ("send 0 1 0.0", "1"), ("come 1", "none"))
        for number in range(2, 100):
            self.said(desk, ("send 1 1 0.0", str(number)))
        self.assertEqual(desk.say("post").count(":hold:"), 98)


class RefusedTest(DeskTest):
    def furnished(self):
        """House 0 holds 0.0, which holds 0.1, and the far 1.0; 0.2 is gone; no letter is on its way."""
        desk = Desk(3, 2)
        for row in ("make 0", "make 0", "make 0", "hold 0 0.0 0.1", "free 0 0.1", "free 0 0.2", "clean 0"):
            desk.say(row)
        for row in ("make 1", "send 1 0 1.0", "come 1"):
            desk.say(row)
        return desk

    def test_no_house(self):
        desk = self.furnished()
        for h in ("3", "10", "999999999"):
            self.refused(desk, NoHouse, f"make {h}", f"clean {h}", f"ask {h}")
            self.refused(desk, NoHouse, f"hand {h}", f"things {h}", f"holds {h}.0")
            self.refused(desk, NoHouse, f"hold {h} 0.0 0.1", f"drop {h} 0.0 0.1", f"take {h} 7.7 0.1", f"free {h} 7.7")
            self.refused(desk, NoHouse, f"send {h} 0 0.0", f"send 0 {h} 0.0", f"send 0 {h} 7.7")

    def test_as_the_world_refuses(self):
        desk = self.furnished()
        self.refused(desk, NotHeld, "hold 0 0.1 0.0", "hold 0 0.0 0.1", "hold 0 1.0 0.1")
        self.refused(desk, NotHeld, "drop 0 0.1 0.0", "take 0 0.2 0.0")
        self.refused(desk, NotHeld, "free 0 0.1", "free 1 0.0", "send 0 1 0.1", "send 0 1 999999999.999999999")
        self.refused(desk, NotNear, "hold 0 1.0 0.0", "drop 0 1.0 0.0", "take 0 1.0 7.7")
        self.refused(desk, Missing, "drop 0 0.0 1.0", "take 0 0.0 0.0", "take 0 0.0 7.7")
        desk.say("send 0 0 1.0")
        desk.say("send 0 0 1.0")
        self.refused(desk, NoWeight, "send 0 0 1.0", "send 0 1 1.0")
        self.refused(desk, NoHouse, "send 0 3 1.0")

    def test_holds_of_a_thing_that_is_not_there(self):
        desk = self.furnished()
        self.refused(desk, Missing, "holds 0.2", "holds 0.3", "holds 1.1", "holds 2.0", "holds 0.999999999")
        self.said(desk, ("holds 0.0", "0.1"), ("holds 0.1", "none"), ("holds 1.0", "none"))

    def test_no_letter_and_no_inquiry(self):
        desk = self.furnished()
        self.refused(desk, NoLetter, "come 0", "come 1", "come 2", "come 999999999")
        self.refused(desk, NoInquiry, "found 0", "found 1", "found 999999999")
        self.said(desk, ("ask 0", "1"), ("come 2", "5"))
        self.refused(desk, NoLetter, "come 2", "come 6")
        self.refused(desk, NoInquiry, "found 0", "found 2")

    def test_refusals_use_no_numbers(self):
        desk = self.furnished()
        self.refused(desk, NoRow, "make", "ask", "send 0 1")
        self.refused(desk, NoHouse, "make 3", "ask 3", "send 0 3 0.0")
        self.said(desk, ("make 0", "0.3"), ("send 0 1 0.0", "2"), ("ask 0", "1"))


class NoRowTest(DeskTest):
    GOOD = (
        "make 0", "hold 0 0.0 0.0", "drop 0 0.0 0.0", "take 0 0.0 0.0", "free 0 0.0", "send 0 1 0.0", "clean 0",
        "ask 0", "come 1", "hand 0", "things 0", "holds 0.0", "post", "found 1",
    )
    NUMBERS = (
        "", "00", "01", "000000000", "0000000001", "1000000000", "-0", "-1", "+1", "1.", ".1", "0.0", "1.0", "x", "0x1",
        "1e3", "1_0", "0,", "\u0661", "\u00b2", "\uff11", "1\n", "\t1", "0\u00a0", "one", "H", "N",
    )
    THINGS = (
        "", "0", "1", ".", "0.", ".0", "0.0.0", "0..0", "00.0", "0.00", "0.01", "01.0", "-1.0", "0.-1", "0.+1", "+0.0",
        "0,0", "0:0", "(0,0)", "1000000000.0", "0.1000000000", "a.b", "0.x", "\u0660.0", "0.\u00b9", "0.0\n", "A", "B",
    )

    def furnished(self):
        desk = Desk(3, 4)
        desk.say("make 0")
        desk.say("hold 0 0.0 0.0")
        desk.say("send 0 1 0.0")
        desk.say("ask 0")
        return desk

    def test_rows_that_are_none(self):
        self.refused(self.furnished(), NoRow, "", " ", "  ", "\n", "0")
        self.refused(self.furnished(), NoRow, "0.0", "tick 0", "state 0", "letters", "inquiry 1")
        self.refused(self.furnished(), NoRow, "deliver 1", "let 0", "pass 0", "none", "ok")
        self.refused(self.furnished(), NoRow, "say", "help", "make0", "\u00e9")

    def test_verbs_are_written_in_small_letters_and_whole(self):
        for row in self.GOOD:
            verb, blank, rest = row.partition(" ")
            for other in (verb.upper(), verb.title(), verb[:-1], verb + "s", verb + "x", "x" + verb, verb[::-1]):
                if other not in [good.partition(" ")[0] for good in self.GOOD]:
                    self.refused(self.furnished(), NoRow, other + blank + rest)

    def test_blanks(self):
        for row in self.GOOD:
            rows = [" " + row, row + " ", row + "\n", "\n" + row, row + "\t", row + "\r", row + "\u00a0", row + "\x00"]
            rows += [row.replace(" ", other, 1) for other in ("  ", "\t", "\n", "\u00a0", "\u3000", "") if " " in row]
            self.refused(self.furnished(), NoRow, *rows)

    def test_words_too_many_or_too_few(self):
        for row in self.GOOD:
            words = row.split(" ")
            rows = [row + " 0", row + " 0.0", row + " ok", " ".join([words[0], *words]), row + " " + row]
            rows += [" ".join(words[:many]) for many in range(1, len(words))]
            self.refused(self.furnished(), NoRow, *rows)

    def test_words_that_are_no_numbers_or_no_things(self):
        for row in self.GOOD:
            words = row.split(" ")
            for place in range(1, len(words)):
                wrong = self.THINGS if "." in words[place] else self.NUMBERS
                rows = [" ".join(words[:place] + [word] + words[place + 1:]) for word in wrong]
                self.refused(self.furnished(), NoRow, *rows)

    def test_ahead_of_all_else(self):
        desk = self.furnished()
        self.refused(desk, NoRow, "make 9 ", "make 9 9", "hold 9 9.9 9.x")
        self.refused(desk, NoRow, "hold 9 9.9", "drop 9 9.09 9.9", "take 9 9 9.9")
        self.refused(desk, NoRow, "free 9 9", "free 9 -1.0", "send 9 9 9")
        self.refused(desk, NoRow, "send 9 09 9.9", "send 9.9 9 9.9", "clean 03")
        self.refused(desk, NoRow, "ask 9 ", "come 099", "found 99 9", "holds 9")
        self.refused(desk, NoRow, "holds 9.9 9.9", "hand 9.9", "things  9")

    def test_nine_figures_are_a_number(self):
        desk = self.furnished()
        self.refused(desk, NoHouse, "make 999999999", "make 100000000", "holds 999999999.999999999")
        self.refused(desk, NoLetter, "come 123456789")
        self.refused(desk, Missing, "holds 0.123456789")

    def test_nought_itself_is_a_number(self):
        desk = self.furnished()
        self.said(desk, ("hand 0", "0.0"), ("holds 0.0", "0.0"))
        self.refused(desk, NoLetter, "come 0")
        self.refused(desk, NoInquiry, "found 0")


class BesideAWorldTest(DeskTest):
    """Rows of whatever sort are answered as a world answers that does the same."""

    def written(self, things):
        return " ".join(f"{h}.{number}" for h, number in things) or "none"

    def asked(self, world, verb, handed):
        if verb == "hand":
            return self.written(world.state(*handed)[0])
        if verb == "things":
            return self.written(told[0] for told in world.state(*handed)[1])
        if verb == "holds":
            holds = {told[0]: told[2] for told in world.state(handed[0][0])[1]}
            if handed[0] not in holds:
                raise Missing("not there")
            return self.written(holds[handed[0]])
        if verb == "found":
            return self.written(world.inquiry(*handed)[1])
        return " ".join(":".join(map(str, letter[:4])) for letter in world.letters()) or "none"

    def answer(self, world, verb, handed):
        if verb in ("hand", "things", "holds", "found", "post"):
            return self.asked(world, verb, handed)
        told = getattr(world, {"come": "deliver"}.get(verb, verb))(*handed)
        if verb == "make":
            return self.written([told])
        if verb in ("clean", "come"):
            return " ".join(map(str, told)) or "none"
        return "ok" if told is None else str(told)

    def some_word(self, chance, many, thing):
        h = chance.randint(0, many)
        return (h, chance.randint(0, 3)) if thing else h

    def outcome(self, call, *handed):
        try:
            return call(*handed)
        except HoldError as refusal:
            return type(refusal)

    def test_many_rows(self):
        chance, outcomes = random.Random(19), set()
        forms = {row.split(" ")[0]: ["." in word for word in row.split(" ")[1:]] for row in NoRowTest.GOOD}
        verbs = list(forms) + ["come"] * 6 + ["make", "send", "send", "hold"]
        for many, share in ((1, 2), (2, 2), (3, 3), (2, SIXTY)):
            desk, world = Desk(many, share), World(many, share)
            for again in range(900):
                verb = chance.choice(verbs)
                handed = [self.some_word(chance, many, thing) for thing in forms[verb]]
                if verb == "come" and world.letters() and chance.random() < 0.8:
                    handed = [chance.choice(world.letters())[0]]
                words = [self.written([one]) if type(one) is tuple else str(one) for one in handed]
                told = self.outcome(desk.say, " ".join([verb, *words]))
                self.assertEqual(told, self.outcome(self.answer, world, verb, handed), (verb, handed))
                outcomes.add((verb, told if type(told) is type else str))
        self.assertEqual({verb for verb, kind in outcomes if kind is str}, set(forms))
        self.assertGreater(len(outcomes), 25)


if __name__ == "__main__":
    unittest.main()
