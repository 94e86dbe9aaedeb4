"""Commands about picks and marks."""

from deedstand.errors import NoSuch
from deedstand.findhits import all_hits, last_hit, next_hit
from deedstand.machines import machine_of
from deedstand.motions import moved
from deedstand.patternreading import read_pattern
from deedstand.settling import low_high

BACKWARD = ("left", "up", "home", "start", "wordback")


class Mover:
    """Leads places of one text by one word."""

    def __init__(self, text, word):
        self.letters = text
        self.word = word
        # Many picks come through the same places.
        self.goals = {}

    def goal(self, place):
        """Return where the word leads from a place."""
        if place not in self.goals:
            self.goals[place] = moved(self.letters, place, self.word)
        return self.goals[place]

    def goal_behind(self, place, many):
        """Return where the word leads from a place, done many times."""
        for _ in range(many):
            goal = self.goal(place)
            if goal == place:
                return place
            place = goal
        return place


def move(scene, word, many):
    """Move each pick, as a caret."""
    mover = Mover(scene.sheet().text(), word)
    end = 0 if word in BACKWARD else 1
    places = [mover.goal_behind(low_high(pick)[end], many) for pick in scene.picks()]
    scene.hold([(place, place) for place in places])


def grow(scene, word, many):
    """Move the head of each pick."""
    mover = Mover(scene.sheet().text(), word)
    scene.hold([(tail, mover.goal_behind(head, many)) for tail, head in scene.picks()])


def at_place(scene, line, column):
    """Let a caret be the one pick."""
    place = scene.sheet().place_at(line, column)
    scene.hold([(place, place)])


def span(scene, line, column, head_line, head_column):
    """Let a pick between two spots be the one pick."""
    sheet = scene.sheet()
    tail = sheet.place_at(line, column)
    scene.hold([(tail, sheet.place_at(head_line, head_column))])


def also(scene, line, column):
    """Put a caret to the picks."""
    place = scene.sheet().place_at(line, column)
    scene.hold([*scene.picks(), (place, place)])


def pick_all(scene):
    """Let a pick of the whole text be the one pick."""
    scene.hold([(0, scene.sheet().size())])


def pick_one(scene):
    """Let the first pick be the one pick."""
    scene.hold(scene.picks()[:1])


def hold_hit(scene, hit):
    """Let a hit be the one pick, and return it."""
    if hit is None:
        raise NoSuch("hit", 0)
    scene.hold([hit])
    return hit


def seek(scene, pattern):
    """Find the next hit behind the picks."""
    machine = machine_of(read_pattern(pattern))
    behind = max([max(pick) for pick in scene.picks()])
    return hold_hit(scene, next_hit(machine, scene.sheet().text(), behind))


def seek_back(scene, pattern):
    """Find the last hit below the picks."""
    machine = machine_of(read_pattern(pattern))
    before = min([min(pick) for pick in scene.picks()])
    return hold_hit(scene, last_hit(machine, scene.sheet().text(), before))


def pick_hits(scene, pattern):
    """Let all hits become the picks, and return how many there are."""
    machine = machine_of(read_pattern(pattern))
    hits = all_hits(machine, scene.sheet().text())
    if len(hits) == 0:
        raise NoSuch("hit", 0)
    scene.hold(hits)
    return len(hits)


def mark(scene, name):
    """Set a mark at the head of the first pick."""
    chunk, index, side = scene.sheet().anchor(scene.picks()[0][1], 0)
    scene.desk.tell((("mark", scene.number, name, chunk, index, side),))


def unmark(scene, name):
    """Take a mark away."""
    scene.desk.tell((("unmark", scene.number, name),))


def where(scene, name):
    """Return the place of a mark."""
    sheet = scene.sheet()
    if name not in sheet.marks:
        raise NoSuch("mark", name)
    return sheet.where(sheet.marks[name])


def jump(scene, name):
    """Let a caret at a mark be the one pick, and return its place."""
    place = where(scene, name)
    scene.hold([(place, place)])
    return place


PICK_COMMANDS = {
    "move": move,
    "grow": grow,
    "at": at_place,
    "span": span,
    "also": also,
    "all": pick_all,
    "one": pick_one,
    "seek": seek,
    "rear": seek_back,
    "pick": pick_hits,
    "mark": mark,
    "unmark": unmark,
    "where": where,
    "jump": jump,
}
