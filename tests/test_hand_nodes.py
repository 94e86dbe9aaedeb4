"""[88] marks, [90] deeds and nodes as hands say them."""

import unittest

from deedstand.errors import NoSuch, Taken, TooMuch, Unsettled
from deedstand.sheets import Sheet
from tests.deskways import answer_or_error, done, new_desk, new_hand, refuse, text_of
from tests.plainsheet import drawn_deed
from tests.ways import rng_for

AB_ROWS = ("sheet s", 'put "ab"', "back", 'put "X"')


class TestNodes(unittest.TestCase):

    def test_undo_and_redo(self):
        hand = new_hand("sheet a")
        refuse(self, hand, "undo", NoSuch, what="node", name=0)
        refuse(self, hand, "redo", NoSuch, what="child", name=0)
        refuse(self, hand, "redo 1", NoSuch, what="child", name=1)
        done(hand, 'put "1"', 'put "2"', "undo", 'put "3"', "undo", 'put "4"', "undo")
        self.assertEqual((hand.say("place"), hand.say("nodes")), (1, 5))
        # The eldest child is 1; the youngest one, if it is left out.
        self.assertEqual(done(hand, "redo", "undo", "redo 1", "undo", "redo 2", "undo", "redo 3", "text"),
                         (4, 1, 2, 1, 3, 1, 4, "14"))
        done(hand, "undo")
        refuse(self, hand, "redo 4", NoSuch, what="child", name=4)
        told = hand.desk.told()
        # Many steps up are one record.
        self.assertEqual(done(hand, "redo", "undo 2", "place", "standing"), (4, 0, 0, ()))
        self.assertEqual(hand.desk.told(), told + 2)
        done(hand, "go 4")
        refuse(self, hand, "undo 3", NoSuch, what="node", name=0)
        refuse(self, hand, "undo 999999999", NoSuch, what="node", name=0)
        self.assertEqual(done(hand, "undo 2"), (0,))

    def test_go(self):
        hand = new_hand(*AB_ROWS)
        told = hand.desk.told()
        self.assertEqual(done(hand, "go 1", "text", "go 0", "text", "go 3", "go 3", "place"), (1, "ab", 0, "", 3, 3, 3))
        self.assertEqual(hand.desk.told(), told + 4)
        refuse(self, hand, "go 4", NoSuch, what="node", name=4)
        refuse(self, hand, "go 999999999", NoSuch, what="node", name=999999999)

    def test_turns(self):
        hand = new_hand(*AB_ROWS)
        for word in ("strike", "fell", "touching", "stand", "turn"):
            for deed in (0, 4, 999999999):
                refuse(self, hand, f"{word} {deed}", NoSuch, what="deed", name=deed)
        for line in ("strike 2", "turn 2", "turn 2 3 9"):
            before = hand.desk.plain()
            answer = answer_or_error(hand, line)
            self.assertIs(answer[0], NoSuch if "9" in line else Unsettled)
            self.assertEqual(hand.desk.plain(), before)
        self.assertEqual(set(answer_or_error(hand, "strike 2")[1].values()), {(1, 1), (2, 0)})
        refuse(self, hand, "turn 3 2", NoSuch, what="deed", name=2)
        refuse(self, hand, "turn 3 3", NoSuch, what="deed", name=3)
        refuse(self, hand, "stand 3", Taken, name=3)
        self.assertEqual(done(hand, "touching 2", "turnable", "standing"), ((3,), (1, 3), (1, 2, 3)))
        self.assertEqual(done(hand, "turn 2 3", "text", "place", "nodes"), (4, "ab", 4, 5))
        refuse(self, hand, "strike 2", NoSuch, what="deed", name=2)
        refuse(self, hand, "fell 3", NoSuch, what="deed", name=3)
        refuse(self, hand, "strike 4", NoSuch, what="deed", name=4)
        self.assertEqual(done(hand, "stand 2", "text", "undo", "fell 1", "text", "standing"), (5, "a", 4, (1,), "", ()))
        self.assertEqual(done(hand, "go 3", "fell 2", "text", "place"), (3, (2, 3), "ab", 7))
        self.assertEqual(hand.scene.sheet().nodes[7], ("turn", 3, (2, 3)))

    def test_too_long_a_text(self):
        hand = new_hand("sheet a", 'put "' + "x" * 2500 + '"', "at 0 1", "del 2499", "at 0 0",
                        'put "' + "y" * 2500 + '"',
                        slot=400)
        refuse(self, hand, "strike 2", TooMuch, what="text")
        refuse(self, hand, "turn 2", TooMuch, what="text")

    def test_drawn(self):
        # The same answers and errors as those of a sheet, and the same sheet.
        rng = rng_for("hand turns")
        errors = {}
        for _ in range(15):
            hand, sheet = new_hand("sheet s"), Sheet("s")
            for _ in range(25):
                nodes = len(sheet.nodes)
                if rng.random() < 0.4:
                    rounds = drawn_deed(rng, sheet.text())
                    hand.desk.tell((("edit", 1, sheet.place, rounds),))
                    sheet.do(rounds)
                    continue
                one, other = sorted((rng.randint(0, nodes), rng.randint(0, nodes)))
                kind = rng.choice(("strike", "stand_up", "turn", "fell", "touching", "turnable", "standing", "go",
                                   "undo",
                                   "redo"))
                arguments = {"turn": ((one, other),), "turnable": (), "standing": (), "undo": (),
                             "redo": ()}.get(kind, (one,))
                line = kind.replace("_up",
                                    "") + "".join(f" {n}" for n in (arguments[0] if kind == "turn" else arguments))
                try:
                    want = getattr(sheet, kind)(*arguments)
                except (NoSuch, Taken, TooMuch, Unsettled) as error:
                    want = (type(error), vars(error))
                    errors[error.word()] = True
                self.assertEqual(answer_or_error(hand, line), want)
                self.assertEqual(hand.desk.sheet("s").plain(), sheet.plain())
                self.assertEqual((hand.say("place"), hand.say("nodes")), (sheet.place, len(sheet.nodes)))
        self.assertEqual(sorted(errors), ["NoSuch", "Taken", "Unsettled"])

    def test_other_hand(self):
        desk = new_desk()
        ann, bob = desk.hand("ann"), desk.hand("bob")
        done(ann, *AB_ROWS)
        done(bob, "on s")
        self.assertEqual((bob.say("undo"), ann.say("place"), ann.say("strike 1"), bob.say("text")), (2, 2, 4, ""))


class TestMarks(unittest.TestCase):

    def test_marks(self):
        hand = new_hand("sheet a", 'put "ab\ncd"', "span 1 1 0 1", "also 1 2")
        for line in ("unmark m", "where m", "jump m"):
            refuse(self, hand, line, NoSuch, what="mark", name="m")
        # At the head of the first pick, with side 0.
        self.assertEqual(done(hand, "mark m", "where m", "picks"), (None, 1, ((4, 1), (5, 5))))
        self.assertEqual(hand.scene.sheet().marks, {"m": (1, 0, 0)})
        self.assertEqual(done(hand, "at 1 1", "mark n", "at 0 0", "mark o", "where n", "where o"),
                         (None, None, None, None, 4, 0))
        self.assertEqual(done(hand, 'put "xyz"', "where m", "where n", "where o", "jump n", "picks"),
                         (2, 4, 7, 0, 7, ((7, 7),)))
        self.assertEqual(done(hand, "undo", "where m", "jump m", "back", "where m", "strike 3", "where m"),
                         (1, 1, 1, 3, 0, 4, 1))
        self.assertEqual(done(hand, "mark m", "where m", "unmark m"), (None, 0, None))
        refuse(self, hand, "where m", NoSuch, what="mark", name="m")
        done(hand, *[f"mark k{k}" for k in range(38)])
        refuse(self, hand, "mark z", TooMuch, what="marks")
        self.assertEqual(done(hand, "mark k3", "unmark o", "mark z"), (None, None, None))

    def test_two_sheets(self):
        hand = new_hand("sheet a", 'put "abc"', "mark m", "sheet b", 'put "x"', "mark m", "on a", "at 0 0")
        self.assertEqual(done(hand, "jump m", "on b", "where m"), (3, 2, 1))
        self.assertEqual(text_of(hand), "x")


if __name__ == "__main__":
    unittest.main()
