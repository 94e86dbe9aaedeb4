"""What a hand works on: a sheet and its view, or a trial of both."""

from deedstand.errors import NoSuch
from deedstand.keptscreens import kept_screen
from deedstand.layouts import Layout
from deedstand.recordings import Recording
from deedstand.tintkeeping import Tints
from deedstand.views import View


class Pane:
    """A view of one sheet, with the colours and laid rows that are kept for it."""

    def __init__(self):
        self.view = View()
        self.tints = None
        self.layout = None

    def refit(self):
        """Make what is kept anew where the view has another book, width or wrapping than before."""
        view = self.view
        if view.book is None:
            self.tints = None
        elif self.tints is None or self.tints.book != view.book:
            self.tints = Tints(view.book)
        if self.layout is None or (self.layout.width, self.layout.wordwise) != (view.width, view.wordwise):
            self.layout = Layout(view.width, wordwise=view.wordwise)

    def drawn(self, sheet):
        """Return the screen of the sheet."""
        self.refit()
        return kept_screen(self.view, sheet, self.tints, self.layout)


class Scene:
    """What a hand works on: the sheets of the desk, the one that it is on, its panes, and its recording."""

    def __init__(self, desk):
        self.desk = desk
        # The number of the sheet, 0 on none.
        self.number = 0
        self.panes = {}
        self.recording = None

    def check_sheet(self):
        """Raise NoSuch on no sheet."""
        if self.number == 0:
            raise NoSuch("sheet", "")

    def go_on(self, number):
        """Go on the sheet with a number, and return the number."""
        if number not in self.panes:
            self.panes[number] = Pane()
        self.number = number
        return number

    def pane(self):
        """Return the pane of the sheet."""
        self.check_sheet()
        return self.panes[self.number]

    def sheet(self):
        """Return the sheet as it is now."""
        self.check_sheet()
        return self.desk.journal.lasting.sheets[self.number - 1]

    def view(self):
        """Return the view of the sheet."""
        return self.pane().view

    def picks(self):
        """Return the settled picks."""
        return self.view().places(self.sheet())

    def hold(self, picks):
        """Hold picks anew."""
        self.view().hold(self.sheet(), picks)

    def rows_in(self, name):
        """Return the rows of a register."""
        registers = self.desk.journal.lasting.registers
        if name not in registers:
            raise NoSuch("register", name)
        return registers[name]

    def edit(self, splices):
        """Do a deed of one round, and return its node; None for the round ()."""
        return self.edit_all((splices,) if len(splices) > 0 else ())

    def edit_all(self, rounds):
        """Do a deed, and return its node; None for one without rounds."""
        if len(rounds) == 0:
            return None
        self.desk.tell((("edit", self.number, self.sheet().place, rounds),))
        return self.sheet().place

    def start_recording(self, name):
        """Record from now on."""
        self.recording = Recording(name)

    def stop_recording(self):
        """Record no more."""
        self.recording = None

    def end_deed(self, deed):
        """Do what was done on a trial, as one deed, and return its node; None if it has no rounds."""
        node = self.edit_all(deed.rounds)
        view = self.view()
        view.held = deed.view().held
        return node


class DeedScene:
    """A trial of a scene's sheet and picks, on which the rounds of one deed are done."""

    def __init__(self, scene):
        self.scene = scene
        self.base = scene.sheet()
        self.now = self.base
        self.rounds = ()
        shown = scene.view()
        view = View(width=shown.width, height=shown.height, wordwise=shown.wordwise)
        view.held = shown.held
        view.dye(shown.book)
        self.own_view = view

    def check_sheet(self):
        """Raise nothing, as there is a sheet."""
        pass

    def sheet(self):
        """Return the trial as it is now."""
        return self.now

    def view(self):
        """Return the trial's view, which holds its own picks."""
        return self.own_view

    def picks(self):
        """Return the settled picks."""
        return self.own_view.places(self.now)

    def hold(self, picks):
        """Hold picks anew."""
        self.own_view.hold(self.now, picks)

    def rows_in(self, name):
        """Return the rows of a register."""
        return self.scene.rows_in(name)

    def edit(self, splices):
        """Do a further round of the deed, if it has splices."""
        if len(splices) > 0:
            # The deed of all rounds so far is done anew, so that it is refused exactly as a deed of a sheet is.
            trial = self.base.trial()
            trial.do((*self.rounds, splices))
            self.rounds = (*self.rounds, splices)
            self.now = trial
