"""[83] commands and their words, each of [86] to [91]."""

import unittest

from deedstand.alphabet import ALPHABET
from deedstand.commandwords import read_command
from deedstand.errors import BadLine
from deedstand.linewords import words_of
from deedstand.motions import WORDS
from tests.test_sheets import refused
from tests.ways import rng_for

# The commands as the document writes them: N and K may be left out, D .. D are one number or more.
DOCUMENT = """
sheet F | on F | size W H | top L | fold A B | unfold | wrap sign | wrap word | tint R | notint | text | picks
put "T" | back [N] | del [N] | feed | sub "P" "T" | indent A B | paste R | cut R
move WORD [N] | grow WORD [N] | at A B | span A B C D | also A B | all | one | seek "P" | rear "P" | pick "P"
mark M | unmark M | where M | jump M
copy R | let R "T" | record R | stop | play R [N]
undo [N] | redo [K] | go A | strike D | stand D | turn D .. D | fell D | touching D | turnable | standing
nodes | place
load F | save | saveas F | reload | files | unlink F | rest | pace A | moment | sure
repeat [N] { | deed { | }
"""


def forms_of_document():
    """All rows of kinds of words that are commands; D .. D stands for up to twelve numbers."""
    forms = []
    for part in DOCUMENT.replace("\n", " | ").split("|"):
        words = part.split()
        if not words:
            continue
        rows = [[]]
        for word in words:
            if word in ("[N]", "[K]"):
                rows += [row + ["N"] for row in rows]
            elif word == "..":
                rows = [row[:-1] + ["A"] * many for row in rows for many in range(12)]
            else:
                rows = [row + [word] for row in rows]
        forms += rows
    return forms


FORMS = forms_of_document()


def is_kind(word, kind):
    """Whether a word can stand for a part of a form."""
    sort, told = word
    if kind in ("F", "R", "M"):
        return sort == "name"
    if kind == "WORD":
        return sort == "name" and told in WORDS
    if kind == "N":
        return sort == "number" and told >= 1
    if len(kind) == 1 and kind.isupper():
        return sort == "number"
    if kind.startswith('"'):
        return sort == "text"
    return word == (("sign" if kind in "{}" else "name"), kind)


def written(word):
    if word[0] == "text":
        return '"' + word[1].replace("\\", "\\\\").replace('"', '\\"').replace("\n", "\\n") + '"'
    return str(word[1])


def plain_fault(line):
    """Where the first word begins that cannot stand, or the length, or None; BadLine of words_of passes."""
    words = words_of(line)
    left, at = FORMS, 0
    for k, word in enumerate(words):
        left = [form for form in left if len(form) > k and is_kind(word, form[k])]
        if not left:
            return at
        at += len(written(word)) + 1
    if any(len(form) == len(words) for form in left):
        return None
    return len(line)


class TestByHand(unittest.TestCase):

    def test_example(self):
        self.assertEqual((read_command("turn 2 3"), read_command("redo")), (("turn", (2, 3)), ("redo", 0)))
        self.assertEqual(read_command(line="play r"), ("play", "r", 1))

    def test_each_command(self):
        for line, command in (
                ("sheet a", ("sheet", "a")), ("on b", ("on", "b")), ("size 80 24", ("size", 80, 24)),
                ("top 0", ("top", 0)),
                ("fold 1 0", ("fold", 1, 0)), ("unfold", ("unfold",)), ("wrap sign", ("wrap", "sign")),
                ("wrap word", ("wrap", "word")), ("tint r", ("tint", "r")), ("notint", ("notint",)),
                ("text", ("text",)),
                ("picks", ("picks",)), ('put "a\\n"', ("put", "a\n")), ('put ""', ("put", "")), ("back", ("back", 1)),
                ("back 7", ("back", 7)), ("del", ("del", 1)), ("del 4000", ("del", 4000)), ("feed", ("feed",)),
                ('sub "a" "b"', ("sub", "a", "b")), ("indent 0 9", ("indent", 0, 9)), ("paste r", ("paste", "r")),
                ("cut r", ("cut", "r")), ("move left", ("move", "left", 1)), ("move wordback 3",
                                                                              ("move", "wordback", 3)),
                ("grow end 2", ("grow", "end", 2)), ("at 0 0", ("at", 0, 0)), ("span 1 2 3 4", ("span", 1, 2, 3, 4)),
                ("also 5 6", ("also", 5, 6)), ("all", ("all",)), ("one", ("one",)), ('seek "("', ("seek", "(")),
                ('rear "x"', ("rear", "x")), ('pick ""', ("pick", "")), ("mark m", ("mark", "m")),
                ("unmark m", ("unmark", "m")), ("where m", ("where", "m")), ("jump m", ("jump", "m")),
                ("copy r", ("copy", "r")), ('let r "a"', ("let", "r", "a")), ("record r", ("record", "r")),
                ("stop", ("stop",)), ("play r 999999999", ("play", "r", 999999999)), ("undo", ("undo", 1)),
                ("undo 2", ("undo", 2)), ("redo 1", ("redo", 1)), ("go 0", ("go", 0)), ("strike 0", ("strike", 0)),
                ("stand 1", ("stand", 1)), ("turn 0", ("turn", (0,))), ("turn 3 3 1 2", ("turn", (3, 3, 1, 2))),
                ("fell 1", ("fell", 1)), ("touching 1", ("touching", 1)), ("turnable", ("turnable",)),
                ("standing", ("standing",)), ("nodes", ("nodes",)), ("place", ("place",)), ("load f", ("load", "f")),
                ("save", ("save",)), ("saveas f", ("saveas", "f")), ("reload", ("reload",)), ("files", ("files",)),
                ("unlink f", ("unlink", "f")), ("rest", ("rest",)), ("pace 0", ("pace", 0)), ("moment", ("moment",)),
                ("sure", ("sure",)), ("repeat {", ("repeat", 1)), ("repeat 3 {", ("repeat", 3)), ("deed {", ("deed",)),
                ("}", ("}",)), ("sheet sheet", ("sheet", "sheet"))):
            self.assertEqual(read_command(line), command)
            self.assertIs(type(read_command(line)), tuple)
            self.assertIsNone(plain_fault(line))

    def test_bad_lines(self):
        for line, at in (("", 0), ("#", 0), ("# a", 0), ("back 0", 5), ("undo 0", 5), ("redo 0", 5), ("play r 0", 7),
                         ("move left 0", 10), ("move all", 5), ("move", 4), ("move left left", 10), ("repeat 0 {", 7),
                         ("repeat", 6), ("repeat 2", 8), ("repeat x {", 7), ("repeat { {", 9), ("deed", 4),
                         ("deed 1 {", 5),
                         ("} }", 2), ("{", 0), ("turn", 4), ("turn a", 5), ("turn 1 ,", 7), ("wrap", 4),
                         ("wrap words", 5),
                         ('wrap "word"', 5), ("put a", 4), ('put "a" "b"', 8), ("put", 3), ("size 80", 7),
                         ("size 80 24 1", 11),
                         ("text 1", 5), ('"text"', 0), ("texts", 0), ("Text", 1), ("go  1", 3), ("go 1 ", 5),
                         (" go 1", 0),
                         ("go 01", 4), ("sheet a234567890123", 18), ("let r", 5), ('let "r" "a"', 4), ('sub "a"', 7),
                         ("deed{", 4), ("go 1\n", 4), ('put "a\nb"', 6), ("span 1 2 3", 10), ("stop 1", 5)):
            refused(self, BadLine, {"at": at}, read_command, line)


class TestAll(unittest.TestCase):

    def check(self, line):
        try:
            fault = plain_fault(line)
        except BadLine as error:
            fault = error.at
        if fault is None:
            words = tuple(told for _, told in words_of(line))
            if words[0] == "turn":
                words = ("turn", words[1:])
            if words[0] in ("repeat", "deed"):
                words = words[:-1]
            if len(words) == {"back": 1, "del": 1, "undo": 1, "repeat": 1, "move": 2, "grow": 2,
                              "play": 2}.get(words[0]):
                words += (1,)
            if words == ("redo",):
                words += (0,)
            self.assertEqual(read_command(line), words)
        else:
            refused(self, BadLine, {"at": fault}, read_command, line)

    def lines(self):
        for form in [form for form in FORMS if len(form) < 8]:
            parts = []
            for kind in form:
                parts.append({"F": "f1", "R": "reg", "M": "m", "WORD": "wordback", '"T"': '"t\\n"', '"P"': '"[a]"'}.get(
                    kind, "7" if len(kind) == 1 and kind.isupper() else kind))
            yield parts

    def test_words_exchanged(self):
        words = ("0", "1", "20", "a", "left", "word", "sign", '"x"', '""', ",", "{", "}", "", "put", "01", "#")
        for parts in self.lines():
            line = " ".join(parts)
            for end in range(len(line) + 1):
                self.check(line[:end])
            for at in range(len(parts) + 1):
                for word in words:
                    self.check(" ".join(parts[:at] + [word] + parts[at:]))
                    self.check(" ".join(parts[:at] + [word] + parts[at + 1:]))
                self.check(" ".join(parts[:at] + parts[at + 1:]))

    def test_drawn(self):
        rng = rng_for("commands")
        for parts in self.lines():
            line = " ".join(parts)
            for _ in range(25):
                at = rng.randint(0, len(line))
                self.check(line[:at] + rng.choice(ALPHABET) + line[at + rng.randint(0, 1):])

    def test_long(self):
        self.assertEqual(read_command("turn" + " 7" * 1990), ("turn", (7,) * 1990))
        self.assertEqual(read_command('put "' + "x" * 3994 + '"'), ("put", "x" * 3994))


if __name__ == "__main__":
    unittest.main()
