"""Hands, which edit the sheets of a desk."""

from deedstand.alphabet import check_text
from deedstand.commandwords import BRACED, read_command
from deedstand.doing import Doer
from deedstand.errors import BadLine, DeskError, Halt
from deedstand.limits import MOST_TEXT
from deedstand.painting import paints
from deedstand.rolls import RECORDING, read_roll
from deedstand.scenes import Scene
from deedstand.tiling import EMPTY_TILE


class Hand:
    """A hand: it says commands, and looks at sheets."""

    def __init__(self, desk, name):
        self.desk = desk
        self.name = name
        self.scene = Scene(desk)
        # The screen at the last call of paints.
        self.last_screen = ()

    def say(self, line):
        """Do one command, and return its answer."""
        check_text(line, MOST_TEXT)
        if line.startswith("#"):
            raise BadLine(0)
        command = read_command(line)
        if command[0] in BRACED:
            # The brace is the last sign of such a row.
            raise BadLine(len(line) - 1)
        return self.done((line,), Doer(self.scene), (0, 0, command, ()))

    def done(self, rows, doer, statement):
        """Do a statement that stands in rows, record it, and return its answer."""
        first, last, command, _ = statement
        answer = doer.do(statement, self.scene)
        recording = self.scene.recording
        if recording is not None and command[0] not in RECORDING:
            recording.keep(rows[first:last + 1])
        return answer

    def run(self, roll):
        """Do a roll, and return the answers and None, or the first row and the word of the one that is refused."""
        for row in roll:
            check_text(row, MOST_TEXT)
        doer = Doer(self.scene)
        answers = []
        for statement in read_roll(roll):
            try:
                answers.append(self.done(roll, doer, statement))
            except Halt:
                raise
            except DeskError as refusal:
                return (tuple(answers), (statement[0], refusal.word()))
        return (tuple(answers), None)

    def screen(self):
        """Return the screen of the view."""
        return self.scene.pane().drawn(self.scene.sheet())

    def paints(self):
        """Return the paints from the screen at the last call to the screen now."""
        screen = self.screen()
        old = self.last_screen
        if len(old) != len(screen) or len(old[0]) != len(screen[0]):
            old = ((EMPTY_TILE,) * len(screen[0]),) * len(screen)
        self.last_screen = screen
        return paints(old, screen)

    def picks(self):
        """Return the settled picks."""
        return self.scene.picks()

    def sheet_name(self):
        """Return the name of the sheet, None on none."""
        if self.scene.number == 0:
            return None
        return self.scene.sheet().name
