"""G12 and G13, [82], [10]: crashes at every step, with waiting writes landed in part and in any sequence."""

import itertools
import unittest

from deedstand.desks import Desk
from deedstand.disks import Disk
from deedstand.errors import DeskError, Elder, Halt
from deedstand.journals import Journal
from deedstand.openings import meaning_of, opened
from deedstand.shelves import Shelf
from tests.diskways import LoggedDisk, blocks_of, files_on
from tests.recordways import drawn_record, drawn_records
from tests.ways import rng_for


def state_on(disk):
    """What the disk means, as a plain state; its first part is the moment."""
    moment, kept, told = meaning_of(disk)
    return opened(kept + told, moment=moment - len(kept)).plain()


def landings(rng, disk, some=6):
    """Nothing, all in sequence up to each write, and drawn ones: in any sequence, in part, some twice."""
    many, width = disk.pending(), disk.width
    for upto in range(many + 1):
        yield tuple((which, width) for which in range(upto))
    if many <= 3:
        for count in range(1, many + 1):
            for order in itertools.permutations(range(many), count):
                yield tuple((which, rng.randint(0, width)) for which in order)
    for _ in range(some):
        yield tuple((rng.randint(0, many), rng.randint(0, width)) for _ in range(rng.randint(1, 2 * many + 1)))


class Run:
    """A journal's acts on a disk: what was told by each step, and which steps were flushes."""

    def __init__(self, sizes, acts):
        self.sizes, self.acts = sizes, acts
        disk = LoggedDisk(**sizes)
        journal = Journal(disk)
        # Steps behind which so many records were told.
        self.ends = [(disk.steps, 0)]
        for act in acts:
            self.do(journal, act)
            self.ends.append((disk.steps, journal.told()))
        self.steps = disk.steps
        self.flushes = [k for k, step in enumerate(disk.log, 1) if step == ("flush",)]
        self.records = tuple(act for act in acts if isinstance(act, tuple))
        self.journal = journal

    def do(self, journal, act):
        if act == "rest":
            journal.rest()
        elif act == "flush":
            journal.disk.flush()
        else:
            journal.tell(act)

    def halted(self, steps):
        """The disk on which a halt came behind so many steps."""
        disk = Disk(**self.sizes)
        disk.limit(steps)
        try:
            journal = Journal(disk)
            for act in self.acts:
                self.do(journal, act)
        except Halt:
            pass
        return disk

    def bounds(self, steps):
        """Sure and told behind so many steps, and told with the record that is being told."""
        told = max([many for end, many in self.ends if end <= steps], default=0)
        flush = max([k for k in self.flushes if k <= steps], default=0)
        sure = max([many for end, many in self.ends if end <= flush], default=0)
        return sure, told, min(told + 1, len(self.records))


def drawn_acts(rng, many):
    acts = []
    for record in drawn_records(rng, many):
        acts += ["rest"] * (rng.random() < 0.1) + ["flush"] * (rng.random() < 0.07) + [record]
    return acts


class TestJournal(unittest.TestCase):

    def check(self, rng, run, steps):
        disk = run.halted(steps)
        self.assertEqual(disk.steps, min(steps, run.steps))
        sure, told, most = run.bounds(steps)
        came = set()
        for landed in landings(rng, disk):
            crashed = disk.crash(landed)
            state = state_on(crashed)
            self.assertTrue(sure <= state[0] <= most, (steps, landed, state[0], sure, told))
            self.assertEqual(state, opened(run.records[:state[0]]).plain())
            came.add(state[0])
        self.assertTrue(set(range(sure, told + 1)) <= came)

    def test_every_step(self):
        rng = rng_for("crashes")
        for journal, slot in ((1, 60), (3, 60), (8, 80), (40, 80)):
            run = Run({"width": 8, "slot": slot, "journal": journal, "files": 1}, drawn_acts(rng, 14))
            for steps in range(run.steps + 1):
                self.check(rng, run, steps)

    def test_sure(self):
        # The journal tells the same bounds.
        rng = rng_for("sure")
        for _ in range(10):
            run = Run({"width": 9, "slot": 80, "journal": rng.choice((1, 4, 30)), "files": 1}, drawn_acts(rng, 12))
            self.assertEqual((run.journal.sure(), run.journal.told()), run.bounds(run.steps)[:2])

    def test_openings(self):
        # A crash while a disk is opened, again and again: the state stays.
        rng = rng_for("crashed openings")
        for _ in range(8):
            run = Run({"width": 8, "slot": 60, "journal": rng.choice((2, 6, 30)), "files": 1}, drawn_acts(rng, 10))
            disk = run.halted(rng.randint(run.steps // 2, run.steps))
            disk = disk.crash(tuple((which, 8) for which in range(rng.randint(0, disk.pending()))))
            state, epoch = state_on(disk), disk.read(0)[0]
            for _ in range(6):
                whole = disk.crash(())
                journal = Journal(whole)
                self.assertEqual((journal.lasting.plain(), journal.epoch, journal.sure()), (state, epoch + 1, state[0]))
                for steps in range(whole.steps + 1):
                    halted = disk.crash(())
                    halted.limit(steps)
                    try:
                        Journal(halted)
                    except Halt:
                        self.assertLess(steps, whole.steps)
                    for landed in landings(rng, halted, some=2):
                        self.assertEqual(state_on(halted.crash(landed)), state)
                halted = disk.crash(())
                halted.limit(rng.randint(0, whole.steps - 1))
                try:
                    Journal(halted)
                except Halt:
                    pass
                disk = halted.crash(rng.choice(list(landings(rng, halted))))
                self.assertIn(disk.read(0)[0], (epoch, epoch + 1))
                epoch = disk.read(0)[0]

    def test_lives(self):
        # Many lives of one disk, each ended by a halt and a crash; records go on from what the disk meant.
        rng = rng_for("lives")
        disk, records = Disk(width=10, slot=300, journal=4, files=1), ()
        for _ in range(60):
            journal = Journal(disk)
            self.assertEqual(journal.lasting.plain(), opened(records).plain())
            disk.limit(rng.randint(1, 25))
            told, sure = records, len(records)
            try:
                while True:
                    sure = journal.sure()
                    if rng.random() < 0.1:
                        journal.rest()
                        continue
                    record = drawn_record(rng, journal.lasting)
                    try:
                        opened(told + (record,))
                    except DeskError:
                        continue
                    told += (record,)
                    journal.tell(record)
            except Halt:
                pass
            disk = disk.crash(rng.choice(list(landings(rng, disk))))
            state = state_on(disk)
            self.assertTrue(sure <= state[0] <= len(told))
            records = told[:state[0]]
            self.assertEqual(state, opened(records).plain())
        self.assertGreater(len(records), 60)


class TestPace(unittest.TestCase):

    def test_less_than_the_pace(self):
        rng = rng_for("pace")
        for pace in (1, 2, 5):
            desk = Desk(Disk(width=16, slot=100, journal=6, files=8))
            hand = desk.hand("ann")
            hand.run(("sheet a", f"pace {pace}"))
            for _ in range(60):
                hand.run((rng.choice(('put "x"', "all", "undo", "redo", "cut r", "paste r", "mark m", "saveas f",
                                      "save", "back",
                                      "reload", "rest", "copy r")),))
                self.assertLess(desk.told() - desk.sure(), pace)
                state = state_on(desk.crash(()))
                self.assertEqual(state[0], desk.sure())


FILES = {"width": 16, "slot": 40, "journal": 5, "files": 12}


class TestCommands(unittest.TestCase):

    ROWS = ("sheet a", 'put "one two"', 'pick "o"', "cut r", "back", "paste r", "deed {", "feed", 'put "x"', "}", "undo 2",
            "mark m", "strike 1", "pace 2", "saveas f", "redo", 'put "y"', "sheet b", 'let q "z"', "paste q", "saveas g",
            "on a", "save", "all", "copy q", "unlink g", "reload", "load f", "rest", "on b", "save", 'put "end"')

    def told_by(self, disk):
        """What the rows tell on a disk, until they are done or halted: the desk, the records, and what is sure."""
        desk, records, sure = None, [], 0
        try:
            desk = Desk(disk)
            tell, hand = desk.journal.tell, desk.hand("ann")

            def noted(record):
                records.append(record)
                tell(record)

            desk.journal.tell = noted
            for statement in self.statements():
                sure = desk.sure()
                hand.run(statement)
        except Halt:
            pass
        return desk, tuple(records), sure

    def statements(self):
        rows, at = self.ROWS, 0
        while at < len(rows):
            end = rows.index("}", at) + 1 if rows[at] == "deed {" else at + 1
            yield rows[at:end]
            at = end

    def test_every_step(self):
        rng = rng_for("commands")
        sizes = {"width": 16, "slot": 50, "journal": 4, "files": 12}
        disk = Disk(**sizes)
        desk, records, _ = self.told_by(disk)
        self.assertEqual((desk.plain(), len(desk.sheets())), (opened(records).plain(), 3))
        for steps in range(disk.steps + 1):
            halted = Disk(**sizes)
            halted.limit(steps)
            _, told, sure = self.told_by(halted)
            self.assertEqual(told, records[:len(told)])
            for landed in landings(rng, halted, some=3):
                state = state_on(halted.crash(landed))
                self.assertTrue(sure <= state[0] <= len(told))
                self.assertEqual(state, opened(told[:state[0]]).plain())


class TestSaves(unittest.TestCase):

    def desk_with_files(self):
        """A desk whose sheet a is tied to f, whose sheet b has a tie too, and a file of others."""
        desk = Desk(Disk(**FILES))
        hand = desk.hand("ann")
        answers, fault = hand.run(("sheet b", 'put "b text"', "saveas g", "sheet a", 'put "old"', "saveas f",
                                   'put " and new"'))
        assert fault is None
        Shelf(desk.disk).save("other", "text", 3)
        return desk, hand

    def check(self, line, name):
        """At every step of a command that writes a file: it is as before or behind, others stay, the state counts."""
        rng = rng_for(line)
        desk, hand = self.desk_with_files()
        before, start, sure, told = dict(files_on(blocks_of(desk.disk))[0]), desk.disk.steps, desk.sure(), desk.told()
        old = desk.plain()
        hand.say(line)
        behind, many = dict(files_on(blocks_of(desk.disk))[0]), desk.disk.steps - start
        new, new_told = desk.plain(), desk.told()
        self.assertEqual({key: told for key, told in before.items() if key != name},
                         {key: told for key, told in behind.items() if key != name})
        self.assertNotEqual(before, behind)
        came = set()
        for steps in range(many + 1):
            desk, hand = self.desk_with_files()
            desk.disk.limit(steps)
            try:
                hand.say(line)
            except Halt:
                self.assertLess(steps, many)
            for landed in landings(rng, desk.disk):
                crashed = desk.crash(landed)
                files = files_on(blocks_of(crashed))[0]
                self.assertIn(files, (before, behind))
                came.add(files == before)
                state = state_on(crashed)
                self.assertTrue(sure <= state[0] <= new_told)
                if state[0] >= told:
                    self.assertIn(state, (old, new))
                self.next_saves(crashed)
        self.assertEqual(came, {True, False})

    def next_saves(self, crashed):
        """A sheet that has a tie is let its next save, as none but itself wrote the file since."""
        desk = Desk(crashed)
        hand = desk.hand("bob")
        for name in desk.sheets():
            hand.say("on " + name)
            tie = desk.sheet(name).tie
            if tie is not None:
                version = hand.say("save")
                self.assertEqual(Shelf(desk.disk).load(tie[0]), (desk.text(name), version))

    def test_save(self):
        self.check("save", "f")

    def test_saveas(self):
        self.check("saveas h", "h")

    def test_saveas_over_the_own_tie(self):
        self.check("saveas f", "f")

    def test_unlink(self):
        self.check("unlink f", "f")
        self.check("unlink other", "other")

    def test_halted_twice(self):
        # A save that was halted, on the crashed disk, is halted again at every step.
        rng = rng_for("twice")
        for first in range(8):
            for second in range(8):
                desk, hand = self.desk_with_files()
                for steps in (first, second):
                    desk.disk.limit(steps)
                    try:
                        hand.say("save")
                    except Halt:
                        pass
                    crashed = desk.crash(rng.choice(list(landings(rng, desk.disk))))
                    files = files_on(blocks_of(crashed))[0]
                    self.assertIn(files["f"][0], ("old", "old and new"))
                    self.assertEqual((files["g"][0], files["other"]), ("b text", ("text", 3)))
                    desk = Desk(crashed)
                    hand = desk.hand("ann")
                    hand.say("on a")
                self.next_saves(desk.crash(()))


class TestElder(unittest.TestCase):

    def test_drawn(self):
        # Elder exactly if the file is there and others wrote it since; also behind halts and crashes.
        rng = rng_for("elder")
        elders = saves = 0
        for _ in range(25):
            desk = Desk(Disk(width=16, slot=200, journal=3, files=40))
            hand, odd = desk.hand("ann"), 1
            # For each sheet and the file of its tie: whether others wrote it since.
            stale = {}
            for name in ("a", "b"):
                hand.say("sheet " + name)
            for _ in range(40):
                files = Shelf(desk.disk).names()
                name, file, kind = rng.choice("ab"), rng.choice("fg"), rng.random()
                hand.say("on " + name)
                if kind < 0.2:
                    odd += 2
                    Shelf(desk.disk).save(file, rng.choice(("", "x", "yy")), odd)
                    self.written(stale, desk, file, None)
                elif kind < 0.3:
                    hand.run(("unlink " + file,))
                elif kind < 0.45:
                    hand.run(('put "z"',))
                elif kind < 0.55:
                    if hand.run(("reload",))[1] is None:
                        stale[name] = False
                else:
                    tie = desk.sheet(name).tie
                    line = rng.choice(("save", "saveas " + file))
                    is_save = tie is not None and line in ("save", "saveas " + tie[0])
                    goal = tie[0] if is_save else file
                    is_elder = is_save and goal in files and stale[name]
                    limit = rng.choice((None, None, rng.randint(0, 8)))
                    desk.disk.limit(limit)
                    try:
                        hand.say(line)
                        self.assertFalse(is_elder)
                        saves += 1
                    except Elder as error:
                        self.assertTrue(is_elder and error.name == goal)
                        elders += 1
                    except Halt:
                        self.assertFalse(is_elder)
                        desk, hand = self.crashed(rng, desk)
                    except DeskError as error:
                        self.assertTrue(error.word() in ("NoSuch", "Taken") and not is_save)
                        desk.disk.limit(None)
                        continue
                    desk.disk.limit(None)
                    now = desk.sheet(name).tie
                    if not is_elder:
                        self.written(stale, desk, goal, name)
                        if now is not None and now[0] == goal:
                            stale[name] = False
        self.assertTrue(elders > 20 and saves > 100, (elders, saves))

    def written(self, stale, desk, file, name):
        """Others than a sheet find their ties to a file stale, when it has a new version."""
        version = Shelf(desk.disk).version_of(file)
        for other in ("a", "b"):
            tie = desk.sheet(other).tie
            if other != name and tie is not None and tie[0] == file and version not in tie[1:]:
                stale[other] = True

    def crashed(self, rng, desk):
        desk = Desk(desk.crash(rng.choice(list(landings(rng, desk.disk)))))
        return desk, desk.hand("ann")


if __name__ == "__main__":
    unittest.main()
