"""[91] rolls: how they are made, what run answers, blocks of deed, repeat blocks, steps; [92]."""

import unittest

from deedstand.commandwords import read_command
from deedstand.errors import BadLine, BadRoll, BadText, DeskError, Halt, NoSuch, TooMuch
from deedstand.rolls import read_roll
from tests.deskways import done, new_desk, new_hand, refuse, state_of_desk, state_of_hand, text_of
from tests.test_sheets import refused
from tests.ways import rng_for

IN_DEEDS = ("put", "feed", "back", "del", "move", "grow", "at", "span", "also", "all", "one", "seek", "rear", "pick",
            "paste",
            "sub", "indent")
# One row of each command.
ROWS = ("sheet a", "on a", "size 9 9", "top 0", "fold 0 1", "unfold", "wrap word", "tint r", "notint", "text", "picks",
        'put "a"', "back", "del", "feed", 'sub "a" "b"', "indent 0 0", "paste r", "cut r", "move left", "grow left",
        "at 0 0",
        "span 0 0 0 0", "also 0 0", "all", "one", 'seek "a"', 'rear "a"', 'pick "a"', "mark m", "unmark m", "where m",
        "jump m",
        "copy r", 'let r "a"', "record r", "stop", "play r", "undo", "redo", "go 0", "strike 1", "stand 1", "turn 1",
        "fell 1",
        "touching 1", "turnable", "standing", "nodes", "place", "load f", "save", "saveas f", "reload", "files",
        "unlink f",
        "rest", "pace 1", "moment", "sure")


def plain_fault(rows):
    """[91], row by row, with the blocks that are open."""
    blocks = []
    for at, row in enumerate(rows):
        if not row or row[0] == "#":
            continue
        try:
            word = read_command(row)[0]
        except BadLine:
            return at
        if word == "}":
            if not blocks:
                return at
            blocks.pop()
            continue
        if "deed" in blocks and word not in IN_DEEDS and word != "repeat":
            return at
        if blocks and word in ("record", "stop"):
            return at
        if word in ("repeat", "deed"):
            if len(blocks) == 8:
                return at
            blocks.append(word)
    return len(rows) if blocks else None


class TestRead(unittest.TestCase):

    def check(self, rows):
        fault = plain_fault(rows)
        if fault is None:
            read_roll(rows)
        else:
            refused(self, BadRoll, {"row": fault}, read_roll, rows)
            hand = new_hand("sheet a")
            before = state_of_hand(hand)
            refused(self, BadRoll, {"row": fault}, hand.run, rows)
            self.assertEqual(state_of_hand(hand), before)
        return fault

    def test_by_hand(self):
        for rows, fault in (((), None), (("", "#", "# }"), None), (("}",), 0), (("repeat {", "}", "}"), 2),
                            (("deed {",), 1),
                            (("repeat {", "deed {", "}"), 3), (("text", "texts"), 1), (("repeat 0 {", "}"), 0),
                            (("repeat {", "record r", "}"), 1), (("deed {", "stop", "}"), 1),
                            (("deed {", "deed {", "}", "}"), 1),
                            (("deed {", "repeat {", "text", "}", "}"), 2),
                            (("deed {", "repeat {", "play r", "}", "}"), 2),
                            (("repeat {", "deed {", "repeat {", "back", "}", "}", "play r", "}"), None),
                            (("repeat {",) * 8 + ("}",) * 8, None), (("repeat {",) * 9 + ("}",) * 9, 8),
                            (("repeat {",) * 7 + ("deed {",) + ("}",) * 8, None), (("deed {",) + ("repeat {",) * 8, 8),
                            (("repeat {", "}") * 20, None), (("record r", "stop"), None), ((" ",), 0), (("x", "}"), 0),
                            (("#" * 9, "", "go"), 2), (("repeat {", "# }", "", "}"), None), (("repeat {", "#"), 2)):
            self.assertEqual(plain_fault(rows), fault)
            self.check(rows)
        read_roll(rows=("text",))

    def test_each_command_in_a_block(self):
        self.assertEqual(sorted(set(read_command(row)[0] for row in ROWS)),
                         sorted(read_command(row)[0] for row in ROWS))
        for row in ROWS:
            word = read_command(row)[0]
            self.assertIsNone(self.check((row,)))
            self.assertEqual(self.check(("repeat {", row, "}")), 1 if word in ("record", "stop") else None)
            self.assertEqual(self.check(("deed {", row, "}")), None if word in IN_DEEDS else 1)
            self.assertEqual(self.check(("deed {", "repeat {", row, "}", "}")), None if word in IN_DEEDS else 2)

    def test_drawn(self):
        rng = rng_for("rolls")
        faults = {}
        for _ in range(1500):
            rows = tuple(rng.choice(("repeat {", "deed {", "}", "}", "", "# {", "back", "all", "text", "record r", "x"))
                         if rng.random() < 0.98 else "repeat {" for _ in range(rng.randint(1, 9)))
            faults[plain_fault(rows)] = True
            try:
                read_roll(rows)
                self.assertIsNone(plain_fault(rows))
            except BadRoll as error:
                self.assertEqual(error.row, plain_fault(rows))
        self.assertEqual(len(faults), 11)

    def test_longest(self):
        self.check(("text",) * 400)
        self.assertEqual(self.check(("repeat {", "}") * 199 + ("repeat {", "deed")), 399)


class TestRun(unittest.TestCase):

    def test_examples(self):
        hand = new_desk().hand("ann")
        self.assertEqual(hand.run(("sheet a", 'put "ab"', "back", 'put "c"', "strike 2", "text")),
                         ((1, 1, 2, 3), (4, "Unsettled")))
        self.assertEqual(hand.run(("deed {", 'put "X"', "repeat 2 {", "back", "}", "}", "nodes")), ((4, 5), None))
        self.assertEqual(hand.run(roll=("record r", 'put "o"', "stop", "play r 2", "text")),
                         ((None, 5, 1, None, "aooo"), None))

    def test_bad_texts(self):
        hand = new_hand("sheet a")
        for rows, error, fields in ((('put "a"', 5), BadText, {"at": -1}), (('put "a"', "a\tb"), BadText, {"at": 1}),
                                    (("}", "\t"), BadText, {"at": 0}), (("}", "x" * 4001), TooMuch, {"what": "text"}),
                                    (("x" * 4001, "\t"), TooMuch, {"what": "text"}),
                                    (('put "a"', "}"), BadRoll, {"row": 1})):
            before = state_of_hand(hand)
            refused(self, error, fields, hand.run, rows)
            self.assertEqual(state_of_hand(hand), before)
        self.assertEqual(hand.run(()), ((), None))
        self.assertEqual(hand.run(("", "#x", "# y")), ((), None))

    def test_refusals(self):
        hand = new_hand("sheet a")
        # The row is that of the statement at the top, the first one of a block.
        self.assertEqual(hand.run(("# x", 'put "a"', "", "repeat 3 {", "", 'put "b"', "go 9", "}", "text")),
                         ((1,), (3, "NoSuch")))
        self.assertEqual(text_of(hand), "ab")
        self.assertEqual(hand.run(("nodes", "deed {", 'put "c"', "at 7 0", "}", "nodes")), ((3,), (1, "BadPlace")))
        self.assertEqual((text_of(hand), hand.say("nodes")), ("ab", 3))
        self.assertEqual(hand.run(("nodes", "mark m", "undo 9")), ((3, None), (2, "NoSuch")))
        got = hand.run(("repeat 2 {", "nodes", "}", "nodes"))
        self.assertEqual((got, type(got), type(got[0])), (((None, 3), None), tuple, tuple))
        got = hand.run(("go 9",))
        self.assertEqual((type(got[1]), got), (tuple, ((), (0, "NoSuch"))))

    def test_halt_is_raised(self):
        hand = new_hand("sheet a")
        hand.desk.disk.limit(1)
        with self.assertRaises(Halt):
            hand.run(('put "a"', "rest", "rest"))
        hand = new_hand("sheet a")
        hand.desk.disk.limit(0)
        with self.assertRaises(Halt):
            hand.run(("deed {", 'put "a"', "}"))
        with self.assertRaises(Halt):
            new_hand_that_halts().say("play r")

    def test_same_as_said(self):
        rng = rng_for("said and run")
        commands = ROWS + ("# x", "")
        for _ in range(60):
            rows = tuple(rng.choice(commands) for _ in range(12))
            one, other = new_hand("sheet z", 'put "ab\nc"'), new_hand("sheet z", 'put "ab\nc"')
            answers, fault = [], None
            for at, row in enumerate(rows):
                if row and row[0] != "#":
                    try:
                        answers.append(one.say(row))
                    except DeskError as error:
                        fault = (at, error.word())
                        break
            self.assertEqual(other.run(rows), (tuple(answers), fault))
            self.assertEqual(state_of_hand(one), state_of_hand(other))


def new_hand_that_halts():
    hand = new_hand("sheet a", 'let r "repeat {\nput \\"a\\"\n}"')
    hand.desk.disk.limit(0)
    return hand


class TestDeeds(unittest.TestCase):

    def test_by_hand(self):
        hand = new_hand("sheet a", 'put "one two"', "at 0 0")
        told = hand.desk.told()
        self.assertEqual(done(hand, "deed {", 'pick "o"', 'put "0"', "all", "}", "text", "picks"),
                         (2, "0ne tw0", ((0, 7),)))
        self.assertEqual(hand.desk.told(), told + 1)
        self.assertEqual(hand.scene.sheet().nodes[2], ("edit", 1, (((0, 1, "0"), (6, 1, "0")),)))
        self.assertEqual(done(hand, "deed {", "at 0 3", "feed", 'put "x"', "repeat 2 {", "del", "}", "}", "text",
                              "picks"),
                         (3, "0ne\nxw0", ((5, 5),)))
        self.assertEqual(len(hand.scene.sheet().nodes[3][2]), 4)
        # Without a round there is no deed, but the picks are held.
        told = hand.desk.told()
        self.assertEqual(done(hand, "deed {", "all", "one", "at 1 0", "}", "picks", "deed {", "}", "nodes"),
                         (None, ((4, 4),), None, 4))
        self.assertEqual(hand.desk.told(), told)
        # One undo takes all of it back.
        self.assertEqual(done(hand, "undo", "text"), (2, "0ne tw0"))

    def test_without_a_sheet(self):
        hand = new_desk().hand("ann")
        self.assertEqual(hand.run(("deed {", "}")), ((), (0, "NoSuch")))
        self.assertEqual(hand.run(("repeat {", "deed {", "}", "}")), ((), (0, "NoSuch")))
        self.assertEqual(hand.run(("repeat {", "sheet a", "deed {", 'put "x"', "}", "}", "text")), ((None, "x"), None))

    def test_refused(self):
        hand = new_hand("sheet a", 'put "abc"', "span 0 1 0 2", 'let r "x"')
        for inside, word in ((("at 0 0", 'put "x"', "at 9 0"), "BadPlace"), (('put "x"', 'seek "z"'), "NoSuch"),
                             (("all", "back", "repeat 2 {", 'put "y"', 'rear "z"', "}"), "NoSuch"),
                             (('sub "(" ""',), "BadPattern"), (('put "x"', 'sub "x" "\\\\q"'), "BadText"),
                             (("paste r", "paste q"), "NoSuch"), (("indent 0 7",), "BadPlace"),
                             (("repeat 61 {", 'put "x"', "}"), "TooMuch"),
                             (("all", 'put "' + "x" * 3990 + '"', 'put "12345678901"'), "TooMuch"),
                             (("repeat 2000 {", "one", "}"), "TooMuch")):
            before = state_of_hand(hand)
            self.assertEqual(hand.run(("deed {",) + inside + ("}", "text")), ((), (0, word)))
            self.assertEqual(state_of_hand(hand), before)

    def test_limits_are_those_of_the_whole_deed(self):
        hand = new_hand("sheet a", 'put "' + "ab" * 30 + '"', "at 0 0", slot=400)
        self.assertEqual(done(hand, "deed {", "repeat 60 {", 'put "x"', "}", "}"), (2,))
        self.assertEqual(len(hand.scene.sheet().nodes[2][2]), 60)
        # A 61st round that does nothing is none.
        self.assertEqual(done(hand, "deed {", "repeat 60 {", 'put "x"', "}", 'put ""', 'sub "z" "y"', "}"), (3,))
        for _ in range(6):
            self.assertEqual(hand.run(("deed {", "repeat 7 {", 'sub "a" "c"', 'sub "c" "a"', "}", "}"))[1],
                             (0, "TooMuch"))
        self.assertEqual(hand.run(("deed {", "repeat 3 {", 'sub "a" "c"', 'sub "c" "a"', "}", "}")), ((4,), None))
        done(hand, *['put "y"'] * 295)
        self.assertEqual(hand.run(("deed {", "all", "one", "}", "deed {", 'put "z"', "}")), ((None,), (4, "TooMuch")))
        hand = new_hand("sheet a", 'put "' + "x" * 3994 + '"', 'put "12345"', slot=400)
        # More signs between than a text may have at last: refused, as the deed of the rounds so far would be.
        self.assertEqual(hand.run(("deed {", 'put "yz"', "back 2", "}")), ((), (0, "TooMuch")))
        self.assertEqual(hand.run(("deed {", "back 2", 'put "yz"', 'put "a"', "}")), ((3,), None))
        # The signs put in all: each round puts some and cuts them again.
        self.assertEqual(hand.run(("deed {", "all", 'put "' + "x" * 3990 + '"', "all", 'put "' + "x" * 3990 + '"',
                                   "}")), ((4,), None))
        self.assertEqual(hand.run(("deed {",) + ("all", 'put "' + "x" * 3000 + '"') * 3 + ("}",)), ((), (0, "TooMuch")))

    def test_full(self):
        hand = new_hand("sheet a", width=16, slot=6)
        before = state_of_hand(hand)
        self.assertEqual(hand.run(("deed {", 'put "' + "x" * 80 + '"', "at 0 3", "}")), ((), (0, "Full")))
        self.assertEqual(state_of_hand(hand), before)

    def test_same_as_said(self):
        # The text, the picks and the places of marks are those that the rows leave one by one.
        rng = rng_for("deeds")
        commands = ('put "x"', 'put "y\\n"', "feed", "back 2", "del", "move left", "grow word 2", "at 0 2",
                    "span 0 1 1 1",
                    "also 0 0", "all", "one", 'seek "a"', 'rear "b"', 'pick "[ab]"', "paste r", 'sub "a" "<&>"',
                    "indent 0 0")
        refusals = lets = 0
        for _ in range(150):
            rows = tuple(rng.choice(commands) for _ in range(rng.randint(1, 7)))
            hands = [new_hand('let r "q\n"', "sheet a", 'put "ab (ba\n aab"', "mark m", "at 1 1", "mark n",
                              "span 0 1 0 4") for _ in range(2)]
            if rng.random() < 0.3:
                rows = ("repeat 2 {",) + rows + ("}",)
            answers, fault = hands[0].run(("deed {",) + rows + ("}",))
            said = hands[1].run(rows)[1]
            self.assertEqual(fault and fault[1], said and said[1])
            if fault is None:
                lets += 1
                marks = [hand.scene.sheet().mark_places() for hand in hands]
                self.assertEqual((text_of(hands[0]), hands[0].picks(), marks[0]),
                                 (text_of(hands[1]), hands[1].picks(), marks[1]))
                self.assertEqual(hands[0].say("nodes"), 2 + (answers[0] is not None))
                self.assertEqual(hands[0].scene.view().folded, hands[1].scene.view().folded)
            else:
                refusals += 1
        self.assertTrue(lets > 60 and refusals > 20, (lets, refusals))

    def test_views_in_deeds(self):
        # The book of the view counts for feed and indent.
        hand = new_hand("sheet a", 'put "(x"')
        hand.desk.tell((("keep", "r", ("mode a", 'rule 1 a "[(]"')),))
        self.assertEqual(done(hand, "deed {", "feed", 'put "y"', "}", "text"), (2, "(x\n  y"))
        self.assertEqual(done(hand, "undo", "tint r", "deed {", "feed", 'put "y"', "}", "text"), (1, None, 3, "(x\ny"))

    def test_strike_of_a_deed(self):
        hand = new_hand("sheet a", 'put "ab"', "deed {", 'put "c"', "at 0 0", 'put "z"', "}", 'put "y"')
        self.assertEqual(done(hand, "text", "strike 2", "text"), ("zyabc", 4, "yab"))


class TestRepeats(unittest.TestCase):

    def test_by_hand(self):
        hand = new_hand("sheet a")
        self.assertEqual(done(hand, "repeat 3 {", 'put "a"', "repeat 2 {", 'put "b"', "}", "}", "text", "repeat {",
                              "}"),
                         (None, "abbabbabb", None))
        # The first refusal ends it; what it did before stays.
        self.assertEqual(hand.run(("repeat 5 {", 'rear "a"', 'put "c"', "}", "text")), ((), (0, "NoSuch")))
        self.assertEqual(text_of(hand), "cbbcbbcbb")

    def test_refused_within_a_deed(self):
        hand = new_hand("sheet a", 'put "aab"')
        before = state_of_hand(hand)
        self.assertEqual(hand.run(("deed {", "repeat 5 {", 'rear "a"', 'put "c"', "}", "}")), ((), (0, "NoSuch")))
        self.assertEqual(state_of_hand(hand), before)

    def test_within_repeats_of_deeds(self):
        hand = new_hand("sheet a", 'put "aab"')
        self.assertEqual(hand.run(("repeat 5 {", "deed {", 'rear "a"', 'put "c"', "}", "}", "text")),
                         ((), (0, "NoSuch")))
        self.assertEqual((text_of(hand), hand.say("nodes")), ("ccb", 4))


class TestSteps(unittest.TestCase):

    def test_two_thousand(self):
        hand = new_hand("sheet a")
        # 400 times the begin of the rows, and four commands each time.
        four = ("one",) * 4
        self.assertEqual(hand.run(("repeat 400 {",) + four + ("}",)), ((None,), None))
        self.assertEqual(hand.run(("repeat 400 {",) + four + ("}", "one")), ((None,), (6, "TooMuch")))
        self.assertEqual(hand.run(("repeat 2000 {", "}")), ((None,), None))
        self.assertEqual(hand.run(("repeat 2000 {", "}", "one")), ((None,), (2, "TooMuch")))
        self.assertEqual(hand.run(("repeat 2001 {", "}")), ((), (0, "TooMuch")))
        self.assertEqual(hand.run(("repeat 999999999 {", "# x", "}")), ((), (0, "TooMuch")))
        self.assertEqual(hand.run(("repeat 1999 {", "}", "deed {", "}", "one")), ((None, None, None), None))
        # A play is a step, and each time that its rows are begun, and its commands.
        done(hand, 'let r "one\none"', 'let q ""')
        self.assertEqual(hand.run(("play r 666", "one")), ((None, None), None))
        self.assertEqual(hand.run(("play r 666", "one", "one")), ((None, None), (2, "TooMuch")))
        self.assertEqual(hand.run(("play q 1999",)), ((None,), None))
        refuse(self, hand, "play q 2000", TooMuch, what="steps")
        # Each call begins anew.
        self.assertIsNone(hand.say("play q 1999"))
        self.assertIsNone(hand.say("play r 666"))
        refuse(self, hand, "play r 667", TooMuch, what="steps")
        # The steps of a play within count on.
        done(hand, 'let p "play r\nplay r"')
        self.assertEqual(hand.run(("play p 221", "repeat 9 {", "}", "one")), ((None, None, None), None))
        self.assertEqual(hand.run(("play p 221", "repeat 10 {", "}", "one")), ((None, None), (3, "TooMuch")))

    def test_deepest(self):
        # Eight plays within one another, each in eight blocks, and a pattern with brackets twenty deep.
        hand = new_hand("sheet a", 'put "ab"', "at 0 0")
        for k in range(1, 9):
            last = f"play p{k + 1}" if k < 8 else 'seek "' + "(" * 20 + "a?" + ")" * 20 + 'b"'
            hand.desk.tell((("keep", f"p{k}", ("repeat {",) * 8 + (last,) + ("}",) * 8),))
        self.assertEqual(done(hand, *["repeat {"] * 8, "play p1", *["}"] * 8, "picks"), (None, ((0, 2),)))

    def test_ahead_of_all_other_errors(self):
        hand = new_hand("sheet a")
        for line in ("go 9", "play z", "strike 7"):
            self.assertEqual(hand.run(("repeat 2000 {", "}", line)), ((None,), (2, "TooMuch")))
            self.assertEqual(hand.run(("repeat 1999 {", "}", line)), ((None,), (2, "NoSuch")))
        nowhere = new_desk().hand("ann")
        self.assertEqual(nowhere.run(("repeat 2000 {", "}", "text")), ((None,), (2, "TooMuch")))
        # A block of deed is no step.
        self.assertEqual(nowhere.run(("repeat 2000 {", "}", "deed {", "}")), ((None,), (2, "NoSuch")))

    def test_refused_commands_count(self):
        hand = new_hand("sheet a", 'let r "' + "\n".join(["one"] * 199) + '"')
        self.assertEqual(hand.run(("play r 9", "repeat 199 {", "}", "one")), ((None, None), (3, "TooMuch")))

    def test_edits_until_then(self):
        hand = new_hand("sheet a")
        before = state_of_desk(hand.desk)
        # 999 times two steps, and two more; the 2,001st is refused.
        self.assertEqual(hand.run(("repeat 999 {", "at 0 0", "}", 'put "x"', "all", 'put "y"')),
                         ((None, 1, None), (5, "TooMuch")))
        self.assertNotEqual(state_of_desk(hand.desk), before)


if __name__ == "__main__":
    unittest.main()
