"""[87] edits of hands, [89] registers, recordings and plays; picks behind the deeds of others; [92]."""

import unittest

from deedstand.bookreading import read_book
from deedstand.clips import clipped, paste_round
from deedstand.entering import ahead_cuts, back_cuts, put_round
from deedstand.errors import (
    BadPattern, BadPlace, BadRoll, BadText, DeskError, Full, NoSuch, Taken, TooMuch, Unsettled,
)
from deedstand.hitrounds import sub_round
from deedstand.indenting import feed_front, indent_round
from deedstand.machines import machine_of
from deedstand.patternreading import read_pattern
from deedstand.plaintints import tints_from_nothing
from deedstand.settling import settled_picks
from deedstand.splicing import spliced
from deedstand.textlines import rows_of, spot_of
from tests.deskways import done, new_desk, new_hand, refuse, state_of_desk, text_of
from tests.test_books import CODE_ROWS
from tests.ways import rng_for

CODE = read_book(CODE_ROWS)


def plain_feed(text, picks, book):
    """[87]: what each pick is exchanged by, and the round."""
    rows, splices, carets, shift = rows_of(text), [], [], 0
    for tail, head in picks:
        low, high = sorted((tail, head))
        line, column = spot_of(text, low)
        mode = None if book is None else tints_from_nothing(book, rows)[line][0]
        put = "\n" + " " * feed_front(book, mode, rows[line][:column])
        splices.append((low, high - low, put))
        shift += len(put) - (high - low)
        carets.append(high + shift)
    return tuple(splices), carets


class TestEdits(unittest.TestCase):

    def test_by_hand(self):
        hand = new_hand("sheet a")
        self.assertEqual(done(hand, 'put "abc"', "picks", "back", "text", "move left", "del", "text", 'put "xy"',
                              "picks"),
                         (1, ((3, 3),), 2, "ab", None, 3, "a", 4, ((3, 3),)))
        self.assertEqual(done(hand, "all", "del", "text", "back", "picks", 'put ""', "nodes"),
                         (None, 5, "", None, ((0, 0),), None, 6))
        # The picks become carets also where nothing is done.
        done(hand, 'put "abcd"', "at 0 1", "also 0 3")
        self.assertEqual(done(hand, "back 9", "text", "picks", "undo", "at 0 1", "also 0 3", 'put ""', "picks"),
                         (7, "d", ((0, 0),), 6, None, None, None, ((1, 1), (3, 3))))

    def test_feed(self):
        hand = new_hand("sheet a", 'put "  f(x"', "feed", 'put "y)"', "feed", 'put "z"')
        self.assertEqual((text_of(hand), hand.picks()), ("  f(x\n    y)\n    z", ((18, 18),)))
        done(hand, "span 0 3 0 5", "feed")
        self.assertEqual((text_of(hand), hand.picks()), ("  f\n  \n    y)\n    z", ((6, 6),)))
        hand.desk.tell((("keep", "r", ("mode a", 'rule 1 b "\'"', 'rule 1 a "[(]"', "mode b", 'rule 1 b "[^\']"',
                                       'rule 1 a "\'"')),))
        done(hand, "sheet b", "tint r", 'put " (["', "feed", "text")
        self.assertEqual(text_of(hand), " ([\n   ")
        done(hand, 'put "\'"', "feed", 'put "("', "feed")
        self.assertEqual(text_of(hand), " ([\n   '\n   (\n   ")
        done(hand, "notint", "feed")
        self.assertEqual(text_of(hand), " ([\n   '\n   (\n   \n   ")
        done(hand, "at 2 9", "feed")
        self.assertEqual(text_of(hand), " ([\n   '\n   (\n     \n   \n   ")
        done(hand, "sheet c", 'put "' + " " * 70 + 'a"', "feed")
        self.assertEqual(text_of(hand), " " * 70 + "a\n" + " " * 60)

    def test_drawn(self):
        rng = rng_for("hand edits")
        tried = {}
        for _ in range(25):
            hand = new_hand("sheet a", 'put "if(a\n <b c\nxx"')
            hand.desk.tell((("keep", "r", CODE_ROWS), ("keep", "p", ("q", "\n")), ("keep", "o", ("w",))))
            book = rng.choice((None, CODE))
            if book:
                hand.say("tint r")
            for _ in range(14):
                text = text_of(hand)
                picks = settled_picks([tuple(rng.randint(0,
                                                         len(text)) for _ in range(2)) for _ in range(rng.randint(1,
                                                                                                                  3))])
                if rng.random() < 0.5:
                    picks = settled_picks([(head, head) for _, head in picks])
                hand.scene.hold(picks)
                many = rng.randint(1, 4)
                line, splices, carets = rng.choice((
                    ('put "z\\n"',) + put_round(picks, "z\n"),
                    (f"back {many}",) + back_cuts(picks, text, many),
                    (f"del {many}",) + ahead_cuts(picks, text, many),
                    ("feed",) + plain_feed(text, picks, book),
                    ("paste p",) + paste_round(picks, ("q", "\n")),
                    ("paste o",) + paste_round(picks, ("w",)),
                    ('sub "[a-c]" "<&&>"', sub_round(machine_of(read_pattern("[a-c]")), text, "<&&>",
                                                    [sorted(pick) for pick in picks if pick[0] != pick[1]] or None),
                                                    None),
                    (f"indent 0 {text.count(chr(10))}", indent_round(book, text, 0, text.count("\n")), None)))
                nodes, told = hand.say("nodes"), hand.desk.told()
                self.assertEqual(hand.say(line), nodes if splices else None)
                self.assertEqual(text_of(hand), spliced(text, splices) if splices else text)
                self.assertEqual((hand.say("nodes"), hand.desk.told()), (nodes + bool(splices), told + bool(splices)))
                if carets is not None:
                    self.assertEqual(hand.picks(), settled_picks([(place, place) for place in carets]))
                elif not splices:
                    self.assertEqual(hand.picks(), picks)
                if splices:
                    self.assertEqual(hand.scene.sheet().nodes[-1][2], (splices,))
                tried[line.split()[0]] = True
        self.assertEqual(len(tried), 7)

    def test_sub(self):
        hand = new_hand("sheet a", 'put "aa ba a"', "at 0 4")
        self.assertEqual(done(hand, 'sub "a" "<&>"', "text", "picks"), (2, "<a><a> b<a> <a>", ((8, 8),)))
        done(hand, "undo", "span 0 0 0 1", "also 0 8", "span 0 2 0 0", 'sub "a" "x"')
        self.assertEqual((text_of(hand), hand.picks()), ("xx ba a", ((0, 0),)))
        done(hand, "span 0 3 0 5", "also 0 0", 'sub "a" "y"')
        self.assertEqual(text_of(hand), "xx by a")
        self.assertEqual(done(hand, 'sub "z" "q"', 'sub "x" "&"', "nodes"), (None, None, 5))
        refuse(self, hand, 'sub "(" "\\\\"', BadPattern, at=1)
        refuse(self, hand, 'sub "' + "a" * 201 + '" ""', TooMuch, what="pattern")
        refuse(self, hand, 'sub "z" "q\\\\"', BadText, at=1)
        refuse(self, hand, 'sub "x" "\\\\z"', BadText, at=0)
        self.assertEqual(done(hand, "all", 'sub "b" "\\\\&\\\\n\\\\\\\\"', "text"), (None, 5, "xx &\n\\y a"))

    def test_limits(self):
        hand = new_hand("sheet a", 'put "' + "x" * 3900 + '"', slot=400)
        refuse(self, hand, 'put "' + "y" * 101 + '"', TooMuch, what="text")
        refuse(self, hand, 'sub "x" "&&"', TooMuch, what="splices")
        refuse(self, hand, "indent 1 0", BadPlace, at=1)
        refuse(self, hand, "indent 0 1", BadPlace, at=1)
        done(hand, 'put "' + "y" * 100 + '"')
        refuse(self, hand, "feed", TooMuch, what="text")
        done(hand, "all", 'put "a\nb"', "all")
        refuse(self, hand, "indent 1 0", BadPlace, at=0)
        for _ in range(4):
            done(hand, 'put "' + "x" * 3990 + '"', "undo", "all")
        refuse(self, hand, 'put "' + "x" * 3990 + '"', TooMuch, what="born")

    def test_full_sheet(self):
        hand = new_hand("sheet a", *['put "x"'] * 290)
        done(hand, *['put "x"'] * 9, "at 0 3")
        for line in ('put "y"', "back", "feed", 'sub "x$" "y"'):
            refuse(self, hand, line, TooMuch, what="nodes")
        # What does no deed is let.
        self.assertEqual(done(hand, 'put ""', "at 0 0", "back", "nodes"), (None, None, None, 300))
        done(hand, "all", "copy r")
        refuse(self, hand, "cut r", TooMuch, what="nodes")
        refuse(self, hand, "strike 1", TooMuch, what="nodes")


class TestRegisters(unittest.TestCase):

    def test_copy_cut_paste(self):
        hand = new_hand("sheet a", 'put "one two three"', "at 0 0")
        refuse(self, hand, "copy r", NoSuch, what="pick", name=0)
        refuse(self, hand, "cut r", NoSuch, what="pick", name=0)
        refuse(self, hand, "paste r", NoSuch, what="register", name="r")
        done(hand, 'pick "t[a-z]+"', "also 0 0")
        told = hand.desk.told()
        self.assertEqual(done(hand, "copy r", "picks"), (None, ((0, 0), (4, 7), (8, 13))))
        self.assertEqual(hand.desk.plain()[2], (("r", clipped("one two three", hand.picks())),))
        self.assertEqual(done(hand, "cut q", "text", "picks"), (2, "one  ", ((0, 0), (4, 4), (5, 5))))
        self.assertEqual((hand.desk.told(), dict(hand.desk.plain()[2])["q"]), (told + 3, ("", "two", "three")))
        self.assertEqual(done(hand, "paste q", "text", "picks"), (3, "one two three", ((0, 0), (7, 7), (13, 13))))
        # The carets behind a cut are held anew, so they stay carets when it is undone.
        self.assertEqual(done(hand, "span 0 4 0 7", "cut r", "undo", "picks"), (None, 4, 3, ((4, 4),)))
        self.assertEqual(done(hand, "span 0 4 0 7", "back", "undo", "picks"), (None, 5, 3, ((4, 4),)))
        self.assertEqual(done(hand, "span 0 4 0 7", 'sub "t" "T"', "picks", "undo", "picks"),
                         (None, 6, ((5, 7),), 3, ((4, 7),)))
        # Another number of picks: all rows at each of them.
        self.assertEqual(done(hand, "at 0 0", "paste q", "text"), (None, 7, "\ntwo\nthreeone two three"))

    def test_let(self):
        hand = new_desk().hand("ann")
        self.assertEqual(done(hand, 'let r "a\n\nb"', 'let q ""'), (None, None))
        self.assertEqual(hand.desk.plain()[2], (("q", ("",)), ("r", ("a", "", "b"))))
        refuse(self, hand, 'let r "' + "\\n" * 200 + '"', TooMuch, what="register")
        refuse(self, hand, 'let r "' + "x" * 2001 + '"', TooMuch, what="register")
        done(hand, 'let r "' + "\n" * 199 + '"', 'let r "' + "x" * 2000 + '"')
        done(hand, *[f'let k{k} "x"' for k in range(28)])
        refuse(self, hand, 'let z "x"', TooMuch, what="registers")
        refuse(self, hand, 'let z "' + "x" * 2001 + '"', TooMuch, what="register")
        done(hand, "sheet a", 'put "abc"', "all", "copy r")
        refuse(self, hand, "copy z", TooMuch, what="registers")
        refuse(self, hand, "cut z", TooMuch, what="registers")

    def test_too_much_is_copied(self):
        hand = new_hand("sheet a", 'put "' + "x" * 2001 + '"', "all")
        refuse(self, hand, "copy r", TooMuch, what="register")
        refuse(self, hand, "cut r", TooMuch, what="register")
        done(hand, "grow left", "copy r")

    def test_full(self):
        # Full comes last, and what is refused has told nothing.
        hand = new_hand("sheet a", 'put "' + "x" * 40 + '"', "all", width=16, slot=8)
        refuse(self, hand, 'put "' + "y" * 90 + '"', Full)
        done(hand, "one", "move right")
        refuse(self, hand, 'put "' + "y" * 3970 + '"', TooMuch, what="text")
        done(hand, "all")
        refuse(self, hand, "cut r", Full)
        refuse(self, hand, 'let r "' + "y" * 100 + '"', Full)
        refuse(self, hand, 'let r "' + "y" * 2001 + '"', TooMuch, what="register")
        refuse(self, hand, "strike 2", NoSuch, what="deed", name=2)
        done(hand, "copy r")


class TestRecordings(unittest.TestCase):

    def kept(self, hand, name):
        return dict(hand.desk.plain()[2]).get(name)

    def test_by_hand(self):
        hand = new_hand("sheet a")
        refuse(self, hand, "stop", NoSuch, what="register", name="")
        self.assertEqual(done(hand, "record r"), (None,))
        refuse(self, hand, "record q", Taken, name="r")
        refuse(self, hand, "record r", Taken, name="r")
        hand.say('put "a"')
        hand.run(("# note", "", "repeat 2 {", "# within", "", 'put "b"', "}", "go 9", 'put "not done"'))
        refuse(self, hand, "go 9", NoSuch, what="node", name=9)
        self.assertIsNone(self.kept(hand, "r"))
        hand.say("text")
        self.assertEqual(hand.say("stop"), 7)
        self.assertEqual(self.kept(hand, "r"), ('put "a"', "repeat 2 {", "# within", "", 'put "b"', "}", "text"))
        refuse(self, hand, "stop", NoSuch, what="register", name="")
        self.assertEqual(done(hand, "play r", "text"), (None, "abbabb"))
        # Nothing recorded: the register is taken away.
        self.assertEqual(done(hand, "record r", "stop"), (None, 0))
        self.assertIsNone(self.kept(hand, "r"))
        self.assertEqual(done(hand, "record r", "stop"), (None, 0))

    def test_play_is_one_row(self):
        hand = new_hand("sheet a", 'let p "put \\"x\\"\nput \\"y\\""', "record r", "play p 2", "repeat {", "play p",
                        "}")
        self.assertEqual((hand.say("stop"), text_of(hand)), (4, "xyxyxy"))
        self.assertEqual(self.kept(hand, "r"), ("play p 2", "repeat {", "play p", "}"))
        self.assertEqual(done(hand, "play r", "text"), (None, "xyxyxy" * 2))

    def test_refused_statements(self):
        hand = new_hand("sheet a", "record r")
        self.assertEqual(hand.run(('put "a"', "repeat 3 {", 'put "b"', "go 7", "}", 'put "c"')), ((1,), (1, "NoSuch")))
        self.assertEqual(text_of(hand), "ab")
        with self.assertRaises(BadRoll):
            hand.run(('put "d"', "}"))
        self.assertEqual((hand.say("stop"), self.kept(hand, "r")), (2, ('put "a"', "text")))

    def test_amid_a_roll(self):
        hand = new_hand("sheet a")
        self.assertEqual(done(hand, 'put "a"', "record r", 'put "b"', "deed {", "", 'put "c"', "}", "stop", 'put "d"'),
                         (1, None, 2, 3, 5, 4))
        self.assertEqual(self.kept(hand, "r"), ('put "b"', "deed {", "", 'put "c"', "}"))
        # It goes on over several calls, and each hand has its own.
        other = hand.desk.hand("bob")
        done(hand, "record r")
        done(other, "record q", "on a", "stop")
        done(hand, "nodes", "stop")
        self.assertEqual((self.kept(hand, "r"), self.kept(hand, "q")), (("nodes",), ("on a",)))

    def test_two_hundred_rows(self):
        hand = new_hand("sheet a", "record r", *["one"] * 199)
        done(hand, "repeat {", "}")
        # Two rows are one too many; none is kept after them either.
        done(hand, "one")
        self.assertEqual((hand.say("stop"), len(self.kept(hand, "r"))), (199, 199))
        done(hand, "record r", *["one"] * 200, "all", "one")
        self.assertEqual((hand.say("stop"), self.kept(hand, "r")), (200, ("one",) * 200))

    def test_two_thousand_signs(self):
        hand = new_hand("sheet a", "record r", *['put "' + "x" * 993 + '"', "all"] * 2, "one", "one")
        rows = ('put "' + "x" * 993 + '"', "all")
        # Of two times 999 and 3 signs only the first two rows have at most 2,000; none is kept behind the third.
        self.assertEqual((hand.say("stop"), self.kept(hand, "r")), (2, rows))
        done(hand, "record r", 'put "' + "x" * 991 + '"', 'put "' + "y" * 994 + '"', "all", "one")
        self.assertEqual(hand.say("stop"), 3)
        self.assertEqual(sum(len(row) for row in self.kept(hand, "r")), 2000)

    def test_stop_is_refused(self):
        hand = new_hand(*[f'let k{k} "x"' for k in range(30)], "record z", "moment")
        refuse(self, hand, "stop", TooMuch, what="registers")
        done(hand, "rest")
        self.assertEqual(len(hand.scene.recording.rows), 2)
        hand.desk.tell((("keep", "k3", ()),))
        self.assertEqual(hand.say("stop"), 2)


class TestPlays(unittest.TestCase):

    def test_errors(self):
        hand = new_hand("sheet a", 'let r "put \\"a\\"\n\n# x\ngo 9\nput \\"b\\""', 'let q "one\nstop"',
                        'let p "deed {"',
                        'let o "repeat {\nrecord r\n}"', 'let n "x"', 'let m "play m"')
        refuse(self, hand, "play z", NoSuch, what="register", name="z")
        refuse(self, hand, "play q", BadRoll, row=1)
        refuse(self, hand, "play p", BadRoll, row=1)
        refuse(self, hand, "play o", BadRoll, row=1)
        refuse(self, hand, "play n", BadRoll, row=0)
        # The first refusal ends it and is raised; what was done before stays.
        with self.assertRaises(NoSuch) as caught:
            hand.say("play r 3")
        self.assertEqual((vars(caught.exception), text_of(hand)), ({"what": "node", "name": 9}, "a"))
        self.assertEqual(hand.run(("play r 3",)), ((), (0, "NoSuch")))
        self.assertEqual(text_of(hand), "aa")

    def test_depth(self):
        hand = new_hand("sheet a", 'let p9 "put \\"x\\""', *[f'let p{k} "play p{k + 1}"' for k in range(1, 9)])
        refuse(self, hand, "play p1", TooMuch, what="plays")
        self.assertEqual(done(hand, "play p2", "text"), (None, "x"))
        # The ninth play is refused ahead of what its rows are, but behind whether they are there.
        done(hand, 'let p9 "}"')
        refuse(self, hand, "play p1", TooMuch, what="plays")
        hand.desk.tell((("keep", "p9", ()),))
        refuse(self, hand, "play p1", NoSuch, what="register", name="p9")
        # Plays one behind another are not deep.
        done(hand, 'let p9 "put \\"y\\""', 'let p1 "' + "\n".join(["play p9"] * 12) + '"', "play p1 2", "play p1")
        self.assertEqual(text_of(hand), "x" + "y" * 36)
        done(hand, *[f'let p{k} "play p9\nplay p9\nplay p{k + 1}"' for k in range(1, 9)])
        with self.assertRaises(TooMuch) as caught:
            hand.say("play p1")
        self.assertEqual(caught.exception.what, "plays")

    def test_rows_that_the_register_has_then(self):
        hand = new_hand("sheet a", 'let p "let p \\"put \\\\\\"b\\\\\\"\\"\nput \\"a\\""')
        self.assertEqual(done(hand, "play p 2", "text", "play p", "text"), (None, "aa", None, "aab"))

    def test_same_as_run(self):
        # Within its limits play does what run does with so many times its rows.
        rng = rng_for("plays")
        commands = ('put "a"', 'put "b\\n"', "back", "all", "move left", "undo", "redo", "strike 1", "feed", "go 2",
                    "at 1 0",
                    "copy r", "paste r", "mark m", "jump m", "deed {", "}", "repeat 2 {")
        for _ in range(60):
            rows = tuple(rng.choice(commands) for _ in range(rng.randint(1, 5)))
            times = rng.randint(1, 3)
            one, other = new_hand("sheet a", 'put "xy"'), new_hand("sheet a", 'put "xy"')
            for hand in (one, other):
                hand.desk.tell((("keep", "p", rows),))
            try:
                one.say(f"play p {times}")
                fault = None
            except DeskError as error:
                fault = error.word()
            try:
                told = other.run(rows * times)[1]
                self.assertEqual(told and told[1], fault)
            except BadRoll:
                self.assertEqual(fault, "BadRoll")
            self.assertEqual((one.desk.plain(), one.picks()), (other.desk.plain(), other.picks()))


class TestTwoHands(unittest.TestCase):

    def test_picks_are_held(self):
        desk = new_desk()
        ann, bob = desk.hand("ann"), desk.hand("bob")
        done(ann, "sheet a", 'put "one two three"', "span 0 4 0 7")
        done(bob, "on a", "at 0 0", 'put "zero "')
        self.assertEqual((ann.picks(), bob.picks()), (((9, 12),), ((5, 5),)))
        done(bob, "at 0 10", 'put "!!"')
        self.assertEqual(ann.picks(), ((9, 14),))
        # Undos of the other hand bring all places back.
        done(bob, "undo 2")
        self.assertEqual((ann.picks(), bob.picks(), text_of(ann)), (((4, 7),), ((5, 5),), "one two three"))
        done(bob, "all", "back")
        self.assertEqual((ann.picks(), bob.picks()), (((0, 0),), ((0, 0),)))
        done(bob, "undo")
        self.assertEqual((ann.picks(), bob.picks()), (((4, 7),), ((0, 0),)))
        self.assertEqual(done(ann, "back", "text"), (5, "one  three"))

    def test_struck_below(self):
        desk = new_desk()
        ann, bob = desk.hand("ann"), desk.hand("bob")
        done(ann, "sheet a", 'put "ab"', "back")
        done(bob, "on a", "at 0 1", 'put "X"')
        with self.assertRaises(Unsettled) as caught:
            ann.say("strike 2")
        self.assertEqual({caught.exception.one, caught.exception.other}, {(1, 1), (2, 0)})
        self.assertEqual(done(ann, "fell 2", "text"), ((2, 3), "ab"))
        self.assertEqual(bob.picks(), ((1, 1),))


class TestRefusedChangeNothing(unittest.TestCase):

    def test_drawn(self):
        rng = rng_for("refused")
        commands = ("sheet a", "on b", "put \"xx\"", "back 3", "del", "feed", 'sub "x" "\\\\z"', 'sub "x" "yy"',
                    "indent 0 9",
                    "paste r", "cut r", "copy r", "copy q", 'let r "x"', "record r", "stop", "play r", "undo 2",
                    "redo", "redo 2",
                    "go 3", "strike 1", "strike 2", "stand 1", "fell 2", "turn 1 2", "turn 2 1", "touching 9",
                    "mark m", "unmark m",
                    "jump m", "at 3 3", "all", "seek \"x\"", "load f", "save", "saveas f", "reload", "unlink f",
                    "pace 1001",
                    "size 3 3", "top 4", "fold 1 0", "tint r")
        refusals = {}
        for _ in range(12):
            hand = new_hand("sheet b", 'put "abc"', width=16, slot=12, journal=2, files=3)
            for _ in range(60):
                line = rng.choice(commands)
                if line == "play r":
                    continue
                try:
                    before = state_of_desk(hand.desk), hand.sheet_name(), hand.picks(), hand.screen()
                    hand.say(line)
                except DeskError as error:
                    self.assertEqual((state_of_desk(hand.desk), hand.sheet_name(), hand.picks(), hand.screen()), before)
                    refusals[error.word()] = True
        self.assertGreaterEqual(len(refusals), 8, refusals)


if __name__ == "__main__":
    unittest.main()
