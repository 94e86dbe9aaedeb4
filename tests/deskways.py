"""What can be seen of a desk and its hands, for tests that nothing has changed."""

from deedstand.desks import Desk
from deedstand.disks import Disk
from deedstand.errors import DeskError
from tests.diskways import blocks_of
from tests.test_sheets import refused


def new_desk(**sizes):
    return Desk(Disk(**{"width": 64, "slot": 250, "journal": 10, "files": 20, **sizes}))


def new_hand(*rows, **sizes):
    """A hand on a new desk, that has run some rows."""
    hand = new_desk(**sizes).hand("ann")
    done(hand, *rows)
    return hand


def done(hand, *rows):
    """The answers of rows, none of which is refused; feeds in them are written as rows want them."""
    answers, fault = hand.run(tuple(row.replace("\n", "\\n") for row in rows))
    assert fault is None, (rows[fault[0]][:80], fault)
    return answers


def text_of(hand):
    return hand.say("text")


def view_of(hand):
    """The picks, the folds and all else that a hand's view shows."""
    if hand.sheet_name() is None:
        return None
    return (hand.sheet_name(), hand.picks(), hand.screen())


def state_of_desk(desk):
    disk = desk.disk
    return (desk.plain(), desk.told(), desk.sure(), desk.pace, desk.journal.records(), desk.journal.epoch, disk.steps,
            disk.pending(), blocks_of(disk), blocks_of(disk.crash(())))


def state_of_hand(hand):
    views = [(number, pane.view.held, pane.view.folded, pane.view.top, pane.view.width, pane.view.height,
              pane.view.wordwise, pane.view.book) for number, pane in sorted(hand.scene.panes.items())]
    recording = hand.scene.recording
    kept = recording and (recording.name, recording.rows, recording.is_over)
    return (state_of_desk(hand.desk), hand.sheet_name(), views, view_of(hand), kept)


def refuse(case, hand, command, error, **fields):
    """The command is refused with this error, said and run, and nothing has changed."""
    before = state_of_hand(hand)
    refused(case, error, fields, hand.say, command)
    case.assertEqual(state_of_hand(hand), before)
    case.assertEqual(hand.run((command,)), ((), (0, error.__name__)))
    case.assertEqual(state_of_hand(hand), before)


def answer_or_error(hand, line):
    """The answer of a command, or the class and the fields of its error."""
    try:
        return hand.say(line)
    except DeskError as error:
        return (type(error), vars(error))
