"""Statements that are done, step by step."""

from deedstand.editcommands import EDIT_COMMANDS
from deedstand.filecommands import FILE_COMMANDS
from deedstand.keepcommands import KEEP_COMMANDS
from deedstand.limits import MOST_PLAYS, MOST_STEPS, check_many
from deedstand.nodecommands import NODE_COMMANDS
from deedstand.pickcommands import PICK_COMMANDS
from deedstand.rolls import statements_of
from deedstand.scenes import DeedScene
from deedstand.viewcommands import VIEW_COMMANDS

WITHOUT_SHEET = (
    "sheet", "on", "let", "record", "stop", "load", "files", "unlink", "rest", "pace", "moment", "sure",
)


def action_of(word):
    """Return the function that does a command other than play."""
    if word in VIEW_COMMANDS:
        return VIEW_COMMANDS[word]
    if word in EDIT_COMMANDS:
        return EDIT_COMMANDS[word]
    if word in PICK_COMMANDS:
        return PICK_COMMANDS[word]
    if word in KEEP_COMMANDS:
        return KEEP_COMMANDS[word]
    if word in NODE_COMMANDS:
        return NODE_COMMANDS[word]
    return FILE_COMMANDS[word]


def done_by(scene, command):
    """Do a command other than play on a scene, and return its answer."""
    word = command[0]
    parts = command[1:]
    if word not in WITHOUT_SHEET:
        scene.check_sheet()
    action = action_of(word)
    return action(scene, *parts)


class Doer:
    """Does the statements of one call of say or run, and counts their steps."""

    def __init__(self, scene):
        self.scene = scene
        self.steps = 0
        self.deep = 0

    def step(self):
        """Count a step."""
        check_many(self.steps + 1, MOST_STEPS, "steps")
        self.steps += 1

    def do_all(self, statements, scene):
        """Do statements on a scene."""
        for statement in statements:
            self.do(statement, scene)

    def do_times(self, many, statements, scene):
        """Do statements many times; each time is a step."""
        for _ in range(many):
            self.step()
            self.do_all(statements, scene)

    def do(self, statement, scene):
        """Do a statement on a scene, and return its answer."""
        command, inside = statement[2:]
        if command[0] == "repeat":
            return self.do_times(command[1], inside, scene)
        if command[0] == "deed":
            return self.do_deed(inside)
        self.step()
        if command[0] == "play":
            return self.play(command[1], command[2])
        return done_by(scene, command)

    def do_deed(self, statements):
        """Do statements as one deed, and return its node; None if it has no rounds."""
        deed = DeedScene(self.scene)
        self.do_all(statements, deed)
        return self.scene.end_deed(deed)

    def play(self, name, many):
        """Do the rows of a register many times."""
        rows = self.scene.rows_in(name)
        check_many(self.deep + 1, MOST_PLAYS, "plays")
        statements = statements_of(rows, True)
        # A refusal ends the whole call, so the depth need not be set back then.
        self.deep += 1
        self.do_times(many, statements, self.scene)
        self.deep -= 1
