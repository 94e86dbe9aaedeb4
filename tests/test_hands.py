"""[85], [86], [88] hands: say and its errors, sheets and views, picks and marks, screens and paints; [92]."""

import unittest

from deedstand.bookreading import read_book
from deedstand.errors import BadBook, BadLine, BadPattern, BadPlace, BadText, NoSuch, Taken, TooMuch
from deedstand.motions import WORDS, moved
from deedstand.painting import painted, paints
from deedstand.plainscreens import screen_of
from deedstand.settling import settled_picks
from tests.deskways import done, new_desk, new_hand, refuse, state_of_desk, text_of
from tests.test_books import CODE_ROWS
from tests.test_sheets import refused
from tests.ways import rng_for

# Every command that needs a sheet, with arguments that are fine and such that would be refused.
NEED_SHEET = """size 9 9|size 1 1|top 0|top 9|fold 0 1|unfold|wrap sign|wrap word|tint r|notint|text|picks|put "a"
back|del 2|feed|sub "a" "b"|sub "(" "b"|indent 0 0|indent 9 9|paste r|cut r|move left|grow left 2|at 0 0|at 9 0
span 0 0 0 0|also 0 0
all|one|seek "a"|seek "("|rear "a"|pick "a"|mark m|unmark m|where m|jump m|copy r|undo|redo|go 0|go 9|strike 1|stand 1
turn 1|fell 1|touching 1|turnable|standing|nodes|place|save|saveas f|reload""".replace("\n", "|").split("|")
NEED_NONE = ("sheet a", "on a", 'let r "x"', "record r", "stop", "play r", "load f", "files", "unlink f", "rest",
             "pace 1",
             "moment", "sure")


class TestSay(unittest.TestCase):

    def test_bad_lines(self):
        hand = new_hand("sheet a")
        for line, error, fields in (
                (5, BadText, {"at": -1}), (None, BadText, {"at": -1}), ("a\tb", BadText, {"at": 1}),
                ("\u00e4" + "x" * 5000, BadText, {"at": 0}), ("x" * 4001, TooMuch, {"what": "text"}),
                ("#" * 4001, TooMuch, {"what": "text"}), ("#", BadLine, {"at": 0}), ("# a", BadLine, {"at": 0}),
                ("#\n", BadLine, {"at": 0}), ("", BadLine, {"at": 0}), ("put", BadLine, {"at": 3}),
                ("go 1 1", BadLine, {"at": 5}),
                ("go  1", BadLine, {"at": 3}), ("repeat {", BadLine, {"at": 7}), ("repeat 12 {", BadLine, {"at": 10}),
                ("deed {", BadLine, {"at": 5}), ("}", BadLine, {"at": 0}), ("x" * 4000, BadLine, {"at": 12})):
            before = state_of_desk(hand.desk)
            refused(self, error, fields, hand.say, line)
            self.assertEqual(state_of_desk(hand.desk), before)
        self.assertEqual(hand.say(line='put "' + "x" * 3994 + '"'), 1)

    def test_without_a_sheet(self):
        desk = new_desk()
        desk.tell((("sheet", "z"), ("keep", "r", ("a",))))
        hand = desk.hand("ann")
        for line in NEED_SHEET:
            refuse(self, hand, line, NoSuch, what="sheet", name="")
        for call in (hand.screen, hand.paints, hand.picks):
            refused(self, NoSuch, {"what": "sheet", "name": ""}, call)
        self.assertIsNone(hand.sheet_name())
        for line, error in (("on a", NoSuch), ("stop", NoSuch), ("load f", NoSuch), ("unlink f", NoSuch),
                            ("play q", NoSuch)):
            self.assertEqual(hand.run((line,)), ((), (0, error.__name__)))
        self.assertEqual(done(hand, "sheet a", "on z", 'let q "x"', "record q", "files", "rest", "pace 3", "moment",
                              "sure"),
                         (2, 1, None, None, (), 4, None, 4, 4))


class TestSheets(unittest.TestCase):

    def test_sheet_and_on(self):
        desk = new_desk()
        ann, bob = desk.hand("ann"), desk.hand("bob")
        self.assertEqual((ann.say("sheet a"), ann.sheet_name(), bob.sheet_name()), (1, "a", None))
        self.assertEqual((bob.say("sheet b"), bob.say("on a"), bob.sheet_name(), ann.say("on b")), (2, 1, "a", 2))
        refuse(self, ann, "sheet a", Taken, name="a")
        refuse(self, ann, "on c", NoSuch, what="sheet", name="c")
        for k in range(6):
            self.assertEqual(ann.say("sheet c" + str(k)), k + 3)
        refuse(self, ann, "sheet d", TooMuch, what="sheets")
        refuse(self, ann, "sheet a", Taken, name="a")
        self.assertEqual((ann.say("on a"), desk.sheets()[:3], desk.told()), (1, ("a", "b", "c0"), 8))

    def test_two_sheets_by_turns(self):
        # A hand has one view for each sheet.
        hand = new_hand("sheet a", 'put "one\ntwo"', "at 0 1", "size 9 5", "sheet b", 'put "xy"', "all")
        self.assertEqual((hand.picks(), text_of(hand)), (((0, 2),), "xy"))
        self.assertEqual(done(hand, "on a", "picks", "text", 'put "!"', "on b", "picks", "on a", "picks"),
                         (1, ((1, 1),), "one\ntwo", 2, 2, ((0, 2),), 1, ((2, 2),)))
        self.assertEqual((len(hand.screen()), len(hand.screen()[0])), (5, 9))
        hand.say("on b")
        self.assertEqual((len(hand.screen()), len(hand.screen()[0])), (24, 80))

    def test_views(self):
        hand = new_hand("sheet a", 'put "a\nb\nc\nd"')
        for line in ("size 3 1", "size 81 1", "size 4 0", "size 4 41"):
            refuse(self, hand, line, TooMuch, what="size")
        self.assertEqual(done(hand, "size 4 2", "top 1", "at 3 0"), (None,) * 3)
        self.assertEqual([row[0] for row in hand.screen()], [("c", 0, 0), ("d", 0, 2)])
        done(hand, "at 1 0")
        self.assertEqual([row[0] for row in hand.screen()], [("b", 0, 2), ("c", 0, 0)])
        refuse(self, hand, "top 4", BadPlace, at=4)
        refuse(self, hand, "fold 4 1", BadPlace, at=4)
        refuse(self, hand, "fold 1 1", BadPlace, at=1)
        refuse(self, hand, "fold 1 4", BadPlace, at=4)
        done(hand, "fold 1 2")
        self.assertEqual([row[0] for row in hand.screen()], [("b", 0, 6), ("d", 0, 0)])
        # Unfolded is what holds the line of the first pick's head.
        done(hand, "at 0 0", "also 1 0", "unfold")
        self.assertEqual([row[0] for row in hand.screen()], [("a", 0, 2), ("b", 0, 6)])
        done(hand, "span 0 0 2 0", "unfold")
        self.assertEqual([row[0] for row in hand.screen()], [("b", 0, 1), ("c", 0, 2)])
        done(hand, *["fold 0 3"] * 40)
        refuse(self, hand, "fold 0 1", TooMuch, what="folds")
        self.assertEqual(done(hand, "unfold", "fold 0 1"), (None, None))

    def test_wraps_and_tints(self):
        hand = new_hand("sheet a", 'put "if abc"', "size 4 2", "wrap word")
        rows = lambda: ["".join(sign for sign, _, _ in row) for row in hand.screen()]
        self.assertEqual(rows(), ["if  ", "abc "])
        done(hand, "wrap sign")
        self.assertEqual(rows(), ["if a", "bc  "])
        refuse(self, hand, "tint r", NoSuch, what="register", name="r")
        hand.desk.tell((("keep", "r", CODE_ROWS), ("keep", "q", ("mode a", "x"))))
        refuse(self, hand, "tint q", BadBook, line=1)
        done(hand, "tint r")
        self.assertEqual([tile[1] for tile in hand.screen()[0]], [1, 1, 0, 2])
        # The book is read then; the register may change.
        hand.desk.tell((("keep", "r", ("mode a",)),))
        self.assertEqual([tile[1] for tile in hand.screen()[0]], [1, 1, 0, 2])
        done(hand, "tint r")
        self.assertEqual([tile[1] for tile in hand.screen()[0]], [0, 0, 0, 0])
        hand.desk.tell((("keep", "r", CODE_ROWS),))
        done(hand, "tint r", "notint")
        self.assertEqual([tile[1] for tile in hand.screen()[0]], [0, 0, 0, 0])

    def test_looking_changes_nothing(self):
        hand = new_hand("sheet a", 'put "abc"')
        other = hand.desk.hand("bob")
        other.say("on a")
        before, seen = state_of_desk(hand.desk), (other.picks(), other.screen())
        done(hand, "size 5 5", "top 0", "all", "also 0 1", "one", "text", "picks", "nodes", "place", "turnable",
             "standing",
             "touching 1", "files", "moment", "sure", "wrap word", "notint", "move left", "grow end", "record r")
        hand.paints()
        self.assertEqual((state_of_desk(hand.desk), (other.picks(), other.screen())), (before, seen))


class TestScreens(unittest.TestCase):

    def test_screen_and_paints(self):
        rng = rng_for("hand screens")
        hand = new_hand("sheet a", 'put "if a<b\nc>d\n\nlonger row here"', "sheet b", 'put "x"', "on a", "size 6 4")
        hand.desk.tell((("keep", "r", CODE_ROWS),))
        book, last = read_book(CODE_ROWS), None
        commands = ("size 6 4", "size 5 4", "size 6 3", "tint r", "notint", "wrap word", "wrap sign", "at 1 1",
                    "at 3 9",
                    "all", "also 2 0", 'put "z<"', "feed", "undo", "redo", "fold 0 1", "unfold", "top 1", "on b",
                    "on a")
        tinted = {}
        for _ in range(150):
            line = rng.choice(commands)
            hand.run((line,))
            if line in ("tint r", "notint"):
                tinted[hand.sheet_name()] = book if line == "tint r" else None
            view, sheet = hand.scene.view(), hand.scene.sheet()
            folds = tuple(tuple(sheet.where(anchor) for anchor in held) for held in view.folded)
            want = screen_of(sheet.text(), view.width, view.height, wordwise=view.wordwise,
                             book=tinted.get(hand.sheet_name()),
                             picks=hand.picks(), folds=folds, top=view.top_place(sheet))
            self.assertEqual(hand.screen(), want)
            if rng.random() < 0.5:
                if last is None or (len(last), len(last[0])) != (len(want), len(want[0])):
                    last = (((" ", 0, 0),) * len(want[0]),) * len(want)
                got = hand.paints()
                self.assertEqual((got, painted(last, got)), (paints(last, want), want))
                last = want

    def test_first_paints(self):
        hand = new_hand("sheet a", 'put "ab"', "size 4 2")
        self.assertEqual(hand.paints(), ((0, 0, (("a", 0, 0), ("b", 0, 0), (" ", 0, 2))),))
        self.assertEqual(hand.paints(), ())
        done(hand, "size 5 2")
        self.assertEqual(hand.paints(), ((0, 0, (("a", 0, 0), ("b", 0, 0), (" ", 0, 2))),))
        done(hand, "size 5 1")
        self.assertEqual(len(hand.paints()), 1)
        # From the hand's last paints, of whatever sheet.
        done(hand, "sheet b", "size 5 1")
        self.assertEqual(hand.paints(), ((0, 0, ((" ", 0, 2), (" ", 0, 0), (" ", 0, 0))),))


class TestPicks(unittest.TestCase):

    def test_picks_that_are_set(self):
        hand = new_hand("sheet a", 'put "abc\nde\n\nf"')
        for lines, picks in ((("at 0 0",), ((0, 0),)), (("at 1 9",), ((6, 6),)), (("span 0 1 1 1",), ((1, 5),)),
                             (("span 1 1 0 1",), ((5, 1),)), (("span 3 9 3 9",), ((9, 9),)),
                             (("also 0 0",), ((0, 0), (9, 9))),
                             (("all",), ((0, 9),)), (("also 0 2",), ((0, 9),)), (("at 1 0", "also 0 1", "also 2 5"),
                                                                                 ((1, 1), (4, 4), (7, 7))),
                             (("one",), ((1, 1),)), (("span 0 2 0 0", "also 1 1", "one"), ((2, 0),))):
            self.assertEqual(done(hand, *lines), (None,) * len(lines))
            self.assertEqual((hand.picks(), hand.say("picks")), (picks, picks))
            self.assertIs(type(hand.picks()), tuple)
        for line, at in (("at 4 0", 4), ("span 4 0 5 0", 4), ("span 0 0 5 0", 5), ("also 9 0", 9)):
            refuse(self, hand, line, BadPlace, at=at)
        self.assertEqual(new_hand("sheet b", "all").picks(), ((0, 0),))

    def test_hundred_picks(self):
        hand = new_hand("sheet a", 'put "' + "\\n" * 150 + '"', "at 0 0")
        done(hand, *["also " + str(k) + " 0" for k in range(1, 100)])
        self.assertEqual(len(hand.picks()), 100)
        refuse(self, hand, "also 100 0", TooMuch, what="picks")
        done(hand, "also 50 0")
        refuse(self, hand, 'pick "^"', TooMuch, what="picks")

    def test_moves(self):
        rng = rng_for("moves")
        hand = new_hand("sheet a", 'put "ab  cd\n\n x=y z\nlong row of words"')
        text = text_of(hand)
        for _ in range(250):
            picks = settled_picks([tuple(rng.randint(0, len(text)) for _ in range(2)) for _ in range(rng.randint(1,
                                                                                                                 4))])
            hand.scene.hold(picks)
            word, many, kind = rng.choice(WORDS), rng.choice((1, 2, 3, 40)), rng.choice(("move", "grow"))
            want = []
            for tail, head in picks:
                place = head
                if kind == "move":
                    place = min(tail, head) if word in ("left", "up", "home", "start", "wordback") else max(tail, head)
                for _ in range(many):
                    place = moved(text, place, word)
                want.append((place if kind == "move" else tail, place))
            line = kind + " " + word + (" " + str(many) if many > 1 or rng.random() < 0.5 else "")
            self.assertIsNone(hand.say(line))
            self.assertEqual(hand.picks(), settled_picks(want))

    def test_far_moves(self):
        hand = new_hand("sheet a", 'put "' + "\\n" * 1900 + '"', "at 0 0")
        done(hand, *["also " + str(k) + " 0" for k in range(1, 100)])
        done(hand, "move down 4000")
        self.assertEqual(hand.picks(), ((1900, 1900),))
        done(hand, "grow up 4000")
        self.assertEqual(hand.picks(), ((1900, 0),))

    def test_seeks(self):
        hand = new_hand("sheet a", 'put "ab ab\nab"', "at 0 0")
        self.assertEqual(done(hand, 'seek "ab"', 'seek "ab"', "picks"), ((0, 2), (3, 5), ((3, 5),)))
        self.assertEqual(done(hand, 'seek "b"', 'rear "a"', 'rear "ab"', 'rear "b|"'), ((7, 8), (6, 7), (3, 5), (2, 2)))
        # From the greatest high, and from the least low; an empty hit right behind the picks does not count.
        self.assertEqual(done(hand, "picks", "at 0 0", 'seek "$"', "at 0 1", "also 1 1", 'seek ""', "picks"),
                         (((2, 2),), None, (5, 5), None, None, (8, 8), ((8, 8),)))
        self.assertEqual(done(hand, "span 0 4 0 2", "also 1 1", 'rear "[ab]"', "span 0 4 0 2", 'seek "[ab]"'),
                         (None, None, (1, 2), None, (4, 5)))
        for line in ('seek "z"', 'rear "z"', 'pick "z"'):
            refuse(self, hand, line, NoSuch, what="hit", name=0)
        for word in ("seek", "rear", "pick"):
            refuse(self, hand, word + ' "("', BadPattern, at=1)
            refuse(self, hand, word + ' "' + "a" * 201 + '"', TooMuch, what="pattern")
            refuse(self, hand, word + ' "((a{30}){30}){30}"', TooMuch, what="states")
        done(hand, "at 0 0")
        refuse(self, hand, 'rear "a"', NoSuch, what="hit", name=0)
        done(hand, "at 1 2")
        refuse(self, hand, 'seek "a"', NoSuch, what="hit", name=0)

    def test_picks_of_hits(self):
        hand = new_hand("sheet a", 'put "!!#!"')
        # The empty hits of !* at 2 and at 4 stand at the end of the one before, so they do not count.
        self.assertEqual(done(hand, 'pick "!"', "picks", 'pick "!*"', "picks", 'pick "#!"', "picks"),
                         (3, ((0, 1), (1, 2), (3, 4)), 2, ((0, 2), (3, 4)), 1, ((2, 4),)))


if __name__ == "__main__":
    unittest.main()
