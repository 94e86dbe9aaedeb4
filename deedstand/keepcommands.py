"""Commands about registers and recordings."""

from deedstand.clips import clipped
from deedstand.errors import NoSuch, Taken
from deedstand.textlines import rows_of


def copy_picks(scene, name):
    """Keep the selected texts in a register."""
    scene.desk.tell((("keep", name, clipped(scene.sheet().text(), scene.picks())),))


def let_rows(scene, name, text):
    """Keep the rows of a text in a register."""
    scene.desk.tell((("keep", name, rows_of(text)),))


def start_recording(scene, name):
    """Record for a register from now on."""
    if scene.recording is not None:
        raise Taken(scene.recording.name)
    scene.start_recording(name)


def stop_recording(scene):
    """Keep what was recorded in its register, and return how many rows that are."""
    recording = scene.recording
    if recording is None:
        raise NoSuch("register", "")
    scene.desk.tell((("keep", recording.name, recording.rows),))
    scene.stop_recording()
    return len(recording.rows)


KEEP_COMMANDS = {
    "copy": copy_picks,
    "let": let_rows,
    "record": start_recording,
    "stop": stop_recording,
}
