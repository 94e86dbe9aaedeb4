"""[70] screens, from nothing and kept, [71] paints, [72], G7 for screens, G10."""

import unittest

from deedstand.bookreading import read_book
from deedstand.folding import fold_held
from deedstand.keptscreens import kept_screen
from deedstand.layouts import Layout
from deedstand.painting import painted, paints
from deedstand.plainscreens import screen_of
from deedstand.plaintints import tints_from_nothing
from deedstand.settling import settled_picks
from deedstand.tintkeeping import Tints
from deedstand.views import View
from tests.plainsheet import drawn_deed
from tests.test_books import CODE_ROWS
from tests.test_laying import plain_rows
from tests.test_picks import sheet_with
from tests.test_sheets import state_of
from tests.test_tints import longest_book
from tests.ways import rng_for

CODE = read_book(CODE_ROWS)
NOTHING = (" ", 0, 0)


def line_of(text, place):
    return text[:place].count("\n")


def column_of(text, place):
    return place - (text[:place].rfind("\n") + 1)


def plain_hidden(text, folds):
    return {line for begin, end in folds for line in range(line_of(text, begin) + 1, line_of(text, end) + 1)}


def plain_spot(text, screen_rows, width, place):
    """The index of the screen row and the tile of a place, by looking at all screen rows."""
    line, column = line_of(text, place), column_of(text, place)
    shown = [k for k, row in enumerate(screen_rows) if row[0] == line]
    if shown:
        index = [k for k in shown if screen_rows[k][1] <= column][-1]
        return index, min(width - 1, column - screen_rows[index][1])
    index = [k for k, row in enumerate(screen_rows) if row[0] < line][-1]
    return index, min(width - 1, screen_rows[index][2] - screen_rows[index][1])


def plain_screen(text, width, height, wordwise, book, picks, folds, top):
    """[70], tile by tile."""
    rows = text.split("\n")
    hidden = plain_hidden(text, folds)
    screen_rows = plain_rows(rows, width, wordwise, hidden)
    first = plain_spot(text, screen_rows, width, top)[0]
    if picks:
        caret = plain_spot(text, screen_rows, width, picks[0][1])[0]
        first = max(min(first, caret), caret - height + 1)
    heads = [plain_spot(text, screen_rows, width, head) for _, head in picks]
    screen = []
    for index in range(first, first + height):
        tiles = []
        for tile in range(width):
            if index >= len(screen_rows):
                tiles.append(NOTHING)
                continue
            line, start, end = screen_rows[index]
            sign, colour, flags = " ", 0, 0
            if start + tile < end:
                place = sum(len(row) + 1 for row in rows[:line]) + start + tile
                sign = text[place]
                if book is not None:
                    spans = tints_from_nothing(book, rows)[line][1]
                    colour = [colour for many, colour in spans for _ in range(many)][start + tile]
                flags += any(min(pick) <= place < max(pick) for pick in picks)
            flags += 2 * ((index, tile) in heads)
            last = index + 1 == len(screen_rows) or screen_rows[index + 1][0] != line
            flags += 4 * (last and line + 1 in hidden)
            tiles.append((sign, colour, flags))
        screen.append(tuple(tiles))
    return tuple(screen)


def signs_of_screen(screen):
    return ["".join(sign for sign, _, _ in row) for row in screen]


def flags_of_screen(screen):
    return ["".join(str(flags) for _, _, flags in row) for row in screen]


class TestPlain(unittest.TestCase):

    def check(self, text, width, height, wordwise=False, book=None, picks=(), folds=(), top=0):
        screen = screen_of(text, width, height, wordwise=wordwise, book=book, picks=picks, folds=folds, top=top)
        self.assertEqual(screen, plain_screen(text, width, height, wordwise, book, picks, folds, top))
        self.assertEqual((len(screen), {len(row) for row in screen}), (height, {width}))
        self.assertIs(type(screen), tuple)
        for row in screen:
            self.assertIs(type(row), tuple)
            for tile in row:
                self.assertEqual([type(part) for part in tile], [str, int, int])
        if picks:
            self.assertTrue(any(flags & 2 for row in screen for _, _, flags in row))
        return screen

    def test_examples(self):
        self.assertEqual(screen_of("abcdefgh", 4, 1, picks=((8, 8),)),
                         ((("e", 0, 0), ("f", 0, 0), ("g", 0, 0), ("h", 0, 2)),))
        self.assertEqual(screen_of("ab\ncd\nef", 4, 2, picks=((0, 1),), folds=((0, 5),))[0],
                         (("a", 0, 5), ("b", 0, 6), (" ", 0, 4), (" ", 0, 4)))
        self.assertEqual(screen_of(text="a", width=4, height=1), ((("a", 0, 0), NOTHING, NOTHING, NOTHING),))
        # What is left out: no wrapping at words, no book, no picks, no folds, the top at the beginning.
        self.assertEqual(signs_of_screen(screen_of("ab cde\nf", 4, 3)), ["ab c", "de  ", "f   "])
        self.assertEqual(signs_of_screen(screen_of("a\nb", 4, 1)), ["a   "])
        self.assertEqual(screen_of("\nb", 4, 1), ((NOTHING,) * 4,))
        with self.assertRaises(TypeError):
            screen_of("a", 4, 1, True)

    def test_short_texts(self):
        self.assertEqual(self.check("", 4, 2), ((NOTHING,) * 4,) * 2)
        self.assertEqual(self.check("", 5, 1, picks=((0, 0),), book=CODE), (((" ", 0, 2),) + (NOTHING,) * 4,))
        self.assertEqual(signs_of_screen(self.check("ab\n\ncde", 4, 5)), ["ab  ", "    ", "cde ", "    ", "    "])

    def test_flags(self):
        # Each flag alone, and their sums.
        text = "abcde\nfg\nhi"
        for picks, folds, flags in (
                ((), (), ["0000", "0000", "0000", "0000", "0000"]),
                (((1, 3),), (), ["0112", "0000", "0000", "0000", "0000"]),
                (((3, 1),), (), ["0310", "0000", "0000", "0000", "0000"]),
                (((0, 0), (1, 2)), (), ["2120", "0000", "0000", "0000", "0000"]),
                (((4, 9),), (), ["0000", "1000", "1100", "2000", "0000"]),
                (((9, 4),), (), ["0000", "3000", "1100", "0000", "0000"]),
                (((4, 4),), ((0, 6),), ["0000", "6444", "0000", "0000", "0000"]),
                (((8, 0),), ((0, 8),), ["3111", "5444", "0000", "0000", "0000"]),
                (((5, 4),), ((0, 8),), ["0000", "7444", "0000", "0000", "0000"]),
                (((7, 7), (10, 10)), ((0, 11),), ["0000", "4644", "0000", "0000", "0000"]),
                (((6, 6),), ((6, 9),), ["0000", "0000", "6444", "0000", "0000"])):
            self.assertEqual(flags_of_screen(self.check(text, 4, 5, picks=picks, folds=folds)), flags)

    def test_full_rows(self):
        # A head at the end of a full row lies at its last tile; amid a wrapped row it begins the next one.
        self.assertEqual(flags_of_screen(self.check("abcd\ne", 4, 3, picks=((4, 4),))), ["0002", "0000", "0000"])
        self.assertEqual(flags_of_screen(self.check("abcde", 4, 3, picks=((4, 4),))), ["0000", "2000", "0000"])
        self.assertEqual(flags_of_screen(self.check("abcdefgh", 4, 3, picks=((0, 8),))), ["1111", "1113", "0000"])
        self.assertEqual(flags_of_screen(self.check("ab cde", 4, 3, True, picks=((3, 3),))), ["0000", "2000", "0000"])
        # Two heads at one tile.
        self.assertEqual(flags_of_screen(self.check("abcd\ne", 4, 2, picks=((3, 3), (4, 4)))), ["0002", "0000"])

    def test_tops(self):
        text = "\n".join("abcdefghijkl")
        for top in range(len(text) + 1):
            self.assertEqual(signs_of_screen(self.check(text, 4, 3, top=top))[0][0], text[top // 2 * 2])
            for head in range(0, len(text), 5):
                self.check(text, 4, 3, picks=((head, head),), top=top)
                self.check(text, 4, 3, picks=((head, head),), top=top, folds=((2, 7), (10, 13), (13, 16)))
                self.check(text, 4, 1, picks=((0, head),), top=top, folds=((2, 13), (4, 7)))
        self.assertEqual(signs_of_screen(self.check(text, 4, 2, top=7, folds=((2, 9),))), ["b   ", "f   "])

    def test_folds(self):
        text = "a\nb\nc\nd\ne\nf"
        for folds, first in ((((0, 11),), "a"), (((0, 2), (2, 4)), "adef"), (((0, 6), (2, 4)), "aef"),
                             (((2, 4), (0, 6)), "aef"), (((0, 3), (4, 7)), "acef"),
                             (((4, 4), (5, 4), (9, 1)), "abcdef"),
                             (((1, 2), (3, 4), (5, 6), (7, 8), (9, 10)), "a"), (((0, 2), (0, 2)), "acdef")):
            rows = signs_of_screen(self.check(text, 4, 6, folds=folds))
            self.assertEqual("".join(row[0] for row in rows).strip(), first)

    def test_colours(self):
        screen = self.check("if a<b\nc>d", 4, 4, book=CODE)
        colours = ["".join(str(colour) for _, colour, _ in row) for row in screen]
        self.assertEqual(colours, ["1102", "3300", "3320", "0000"])
        # Hidden rows count for the modes of those below.
        screen = self.check("a\n<\nb", 4, 3, book=CODE, folds=((0, 2),))
        self.assertEqual((screen[0][0], screen[1][0]), (("a", 2, 4), ("b", 3, 0)))

    def test_drawn(self):
        rng = rng_for("screens")
        for _ in range(400):
            text = "".join(rng.choice("ab< >\n") for _ in range(rng.choice((0, 3, 12, 40))))
            ends = [tuple(rng.randint(0, len(text)) for _ in range(2)) for _ in range(rng.randint(0, 4))]
            folds = tuple(sorted(pair) for pair in ends) if rng.random() < 0.5 else ()
            folds = tuple(tuple(pair) for pair in folds)
            picks = [tuple(rng.randint(0, len(text)) for _ in range(2)) for _ in range(rng.randint(0, 4))]
            picks = settled_picks(picks)
            self.check(text, rng.randint(4, 9), rng.randint(1, 7), rng.random() < 0.5, rng.choice((None, CODE)), picks,
                       folds, rng.randint(0, len(text)))

    def test_longest(self):
        screen = screen_of("\n" * 4000, 80, 40, book=longest_book(), picks=((4000, 4000),), folds=((0, 3990),))
        self.assertEqual((screen[0][0], screen[10][0], screen[11][0]), ((" ", 0, 4), (" ", 0, 2), NOTHING))
        screen = screen_of("a" * 4000, 4, 40, book=longest_book(), picks=((0, 4000),), wordwise=True)
        self.assertEqual((screen[0][0][0], screen[39][3][2]), ("a", 3))
        picks = tuple((k * 40, k * 40 + 20) for k in range(100))
        self.assertEqual(len(screen_of("ab \n" * 1000, 80, 40, picks=picks, top=4000)), 40)


class TestKept(unittest.TestCase):

    def check(self, view, sheet, tints, layout):
        before, fields = state_of(sheet), (view.held, view.folded, view.top)
        got = kept_screen(view, sheet, tints, layout)
        folds = tuple(tuple(sheet.where(anchor) for anchor in held) for held in view.folded)
        self.assertEqual(got, screen_of(sheet.text(), view.width, view.height, wordwise=view.wordwise, book=view.book,
                                        picks=view.places(sheet), folds=folds, top=view.top_place(sheet)))
        self.assertEqual(plain_hidden(sheet.text(), folds), set(view.hidden(sheet)))
        self.assertEqual((state_of(sheet), (view.held, view.folded, view.top)), (before, fields))
        rows = tuple(sheet.text().split("\n"))
        self.assertEqual((layout.refresh(rows), tints and tints.refresh(rows)), ((), tints and ()))
        return got

    def test_by_name(self):
        sheet, view = sheet_with("ab"), View(width=4, height=1)
        view.hold(sheet, ((0, 1),))
        self.assertEqual(kept_screen(view=view, sheet=sheet, tints=None, layout=Layout(4)),
                         ((("a", 0, 1), ("b", 0, 2), NOTHING, NOTHING),))

    def test_refreshes_both(self):
        sheet, view = sheet_with("ab\nab"), View(width=4, height=3)
        view.dye(CODE)
        tints, layout = Tints(CODE), Layout(4)
        tints.refresh(("z",))
        kept_screen(view, sheet, tints, layout)
        self.assertEqual((tints.refresh(("ab", "z", "q")), layout.refresh(("ab", "z"))), ((2,), (1,)))

    def test_drawn(self):
        rng = rng_for("kept screens")
        for _ in range(30):
            sheet, view = sheet_with("a\nb<c\n\nd>e f\ng"), View(width=5, height=4)
            keepers = {}
            for _ in range(25):
                self.change(rng, sheet, view)
                key = (view.width, view.wordwise)
                layout, tints = keepers.setdefault(key, (Layout(view.width, wordwise=view.wordwise), Tints(CODE)))
                self.check(view, sheet, None if view.book is None else tints, layout)

    def change(self, rng, sheet, view):
        """A deed, a turn, an undo, a fold, a size, a book, picks, or a top."""
        kind, size, lines = rng.random(), sheet.size(), sheet.row_many()
        if kind < 0.3:
            sheet.do(drawn_deed(rng, sheet.text(), letters="xy<>\n"))
        elif kind < 0.4 and sheet.turnable():
            sheet.turn((rng.choice(sheet.turnable()),))
        elif kind < 0.5:
            sheet.go(rng.randrange(len(sheet.nodes)))
        elif kind < 0.6 and lines > 1:
            first = rng.randrange(lines - 1)
            view.fold(sheet, first, rng.randint(first + 1, lines - 1))
        elif kind < 0.65:
            view.unfold(sheet, rng.randrange(lines))
        elif kind < 0.7:
            view.resize(rng.randint(4, 9), rng.randint(1, 9))
        elif kind < 0.75:
            view.wrap(not view.wordwise)
        elif kind < 0.8:
            view.dye(rng.choice((None, CODE)))
        elif kind < 0.85:
            view.set_top(sheet, rng.randrange(lines))
        else:
            view.hold(sheet, [tuple(rng.randint(0, size) for _ in range(2)) for _ in range(rng.randint(1, 3))])

    def test_same_deeds_same_screen(self):
        # G7: where the same deeds stand, equal views give equal screens, whatever was done between.
        sheet, view = sheet_with("one\ntwo\nthree\nfour"), View(width=6, height=3)
        sheet.do((((4, 3, "2<"),),))
        view.dye(CODE)
        view.hold(sheet, ((1, 6), (9, 9)))
        view.fold(sheet, 2, 3)
        view.set_top(sheet, 1)
        tints, layout = Tints(CODE), Layout(6)
        before = self.check(view, sheet, tints, layout)
        for step in (lambda: sheet.do((((0, 9, ""),), ((1, 0, "x\ny>"),))), lambda: sheet.strike(2)):
            step()
            self.check(view, sheet, tints, layout)
            sheet.undo()
            self.assertEqual(self.check(view, sheet, tints, layout), before)
        sheet.strike(2)
        sheet.stand_up(2)
        self.assertEqual(self.check(view, sheet, tints, layout), before)


class TestPaints(unittest.TestCase):

    def test_example(self):
        self.assertEqual(paints(screen_of("abc", 4, 1), screen_of("xbz!", 4, 1)),
                         ((0, 0, (("x", 0, 0),)), (0, 2, (("z", 0, 0), ("!", 0, 0)))))
        screen = screen_of("abc", 4, 2)
        self.assertEqual((paints(old=screen, new=screen), painted(old=screen, runs=())), ((), screen))
        other = screen_of("wxyz\nwxyz", 4, 2)
        self.assertEqual(paints(screen, other), ((0, 0, other[0]), (1, 0, other[1])))

    def test_each_part_of_a_tile(self):
        old = ((("a", 1, 0),) * 5,)
        for tile in (("b", 1, 0), ("a", 0, 0), ("a", 1, 1)):
            new = (old[0][:4] + (tile,),)
            self.assertEqual(paints(old, new), ((0, 4, (tile,)),))
            new = ((tile,) + old[0][:4],)
            self.assertEqual(paints(old, new), ((0, 0, (tile,)),))

    def drawn_screen(self, rng, width, height):
        return tuple(tuple((rng.choice("ab"), 0, rng.choice((0, 0, 2))) for _ in range(width)) for _ in range(height))

    def test_drawn(self):
        rng = rng_for("paints")
        for _ in range(300):
            width, height = rng.randint(4, 12), rng.randint(1, 4)
            old, new = self.drawn_screen(rng, width, height), self.drawn_screen(rng, width, height)
            runs = paints(old, new)
            differ = [(row, column) for row in range(height) for column in range(width)
                      if old[row][column] != new[row][column]]
            self.assertEqual([(row, column + k) for row, column, tiles in runs for k in range(len(tiles))], differ)
            self.assertEqual(list(runs), sorted(runs))
            for row, column, tiles in runs:
                self.assertEqual(tiles, new[row][column:column + len(tiles)])
                self.assertNotIn((row, column - 1), differ)
                self.assertNotIn((row, column + len(tiles)), differ)
                self.assertIs(type(tiles), tuple)
            self.assertIs(type(runs), tuple)
            got = painted(old, runs)
            self.assertEqual(got, new)
            self.assertTrue(type(got) is tuple and all(type(row) is tuple for row in got))

    def test_painted_overlapping(self):
        rng = rng_for("painted")
        for _ in range(200):
            width, height = rng.randint(4, 8), rng.randint(1, 3)
            old, runs = self.drawn_screen(rng, width, height), []
            want = {(row, column): old[row][column] for row in range(height) for column in range(width)}
            for k in range(rng.randint(0, 5)):
                row, column = rng.randrange(height), rng.randrange(width)
                tiles = tuple((rng.choice("xyz"), k, 0) for _ in range(rng.randint(0, width - column)))
                runs.append((row, column, tiles))
                want.update({(row, column + at): tile for at, tile in enumerate(tiles)})
            got = painted(old, tuple(runs))
            self.assertEqual(got, tuple(tuple(want[row, column] for column in range(width)) for row in range(height)))


if __name__ == "__main__":
    unittest.main()
