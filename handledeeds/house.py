"""A house of programs, kept by deeds."""

from handledeeds.deedrows import first_bad_deed
from handledeeds.errors import BadAnswer
from handledeeds.errors import BadDeed
from handledeeds.errors import BadForm
from handledeeds.errors import BadName
from handledeeds.errors import Broken
from handledeeds.errors import NoName
from handledeeds.errors import NoRun
from handledeeds.errors import NotAsked
from handledeeds.errors import Round
from handledeeds.errors import TooMany
from handledeeds.errors import Used
from handledeeds.limits import HOUSE_PROGRAMS
from handledeeds.limits import HOUSE_RUNS
from handledeeds.limits import MOST
from handledeeds.limits import STEPS
from handledeeds.machine import Machine
from handledeeds.programs import all_needed
from handledeeds.programs import closed
from handledeeds.programs import kind_with
from handledeeds.programs import looked_again
from handledeeds.programs import with_program
from handledeeds.replies import is_reply
from handledeeds.replies import reply_kind
from handledeeds.rows import rows_of
from handledeeds.terms import is_term
from handledeeds.terms import names_free
from handledeeds.words import is_name


class Standing:
    """What stands in a house: programs, machines by numbers, and the Standing ahead of the last deed.

    It's never changed, so that it may be brought back, and be that of several houses.
    """

    def __init__(self, programs, machines, ahead):
        self.programs = programs
        self.machines = machines
        self.ahead = ahead
        self.many = 0 if ahead is None else ahead.many + 1


class House:
    """Programs by names, and their runs by numbers."""

    def __init__(self, sheet):
        self._sheet = sheet
        self._now = Standing({}, {}, None)
        self._under_way = 0
        self._noted = []

    def define(self, name, term):
        """Keep a program by a name; BadName, BadForm, NoName, Clash, Round, Broken, TooMany."""
        if not is_name(name):
            raise BadName(name)
        if not is_term(term) or term[0] not in ("fun", "rec", "num"):
            raise BadForm(term)
        programs = self._now.programs
        needed = names_free(term)
        for other in needed:
            if other not in programs or other == name:
                raise NoName(other)
        kind = kind_with(programs, term, self._sheet)
        if name in all_needed(programs, needed):
            raise Round(name)
        told, broken = looked_again(with_program(programs, name, (term, kind, tuple(needed))), name, self._sheet)
        if broken:
            raise Broken(broken[0])
        if len(told) > HOUSE_PROGRAMS:
            raise TooMany(HOUSE_PROGRAMS)
        self._now = Standing(told, self._now.machines, self._now)

    def drop(self, name):
        """Keep a program no more; NoName, Used."""
        self._program(name)
        programs = self._now.programs
        users = sorted([other for other in programs if name in programs[other][2]])
        if users:
            raise Used(users[0])
        left = {other: programs[other] for other in programs if other != name}
        self._now = Standing(left, self._now.machines, self._now)

    def start(self, term, *, most=MOST):
        """Begin a run of a term with the programs as they stand: its number; NoName, Clash, TooMany."""
        programs = self._now.programs
        for name in names_free(term):
            if name not in programs:
                raise NoName(name)
        kind_with(programs, term, self._sheet)
        machines = self._now.machines
        if len(machines) >= HOUSE_RUNS:
            raise TooMany(HOUSE_RUNS)
        number = [at for at in range(len(machines) + 1) if at not in machines][0]
        self._put_machine(number, Machine(rows_of(closed(programs, term)), most=most))
        return number

    def go(self, number, *, steps=STEPS):
        """Go on with a run: how many steps were done; NoRun."""
        machine = self._machine(number).like()
        done = machine.go(steps=steps)
        self._put_machine(number, machine)
        return done

    def answer(self, number, value):
        """Answer what a run asks; NoRun, NotAsked, BadAnswer."""
        machine = self._machine(number).like()
        outcome = machine.outcome()
        if outcome[0] != "asks":
            raise NotAsked(number)
        if not is_reply(value, reply_kind(self._sheet, outcome[1])):
            raise BadAnswer(value)
        machine.answer(value)
        self._put_machine(number, machine)

    def stop(self, number):
        """Keep a run no more; NoRun."""
        self._machine(number)
        machines = self._now.machines
        left = {other: machines[other] for other in machines if other != number}
        self._now = Standing(self._now.programs, left, self._now)

    def undo(self):
        """Undo the last deed that's done and not undone: True; False where there's none."""
        if self._now.ahead is None:
            return False
        self._now = self._now.ahead
        return True

    def names(self):
        """The rising list of the names of all programs."""
        return sorted(self._now.programs)

    def term(self, name):
        """The program by a name; NoName."""
        return self._program(name)[0]

    def kind(self, name):
        """The KIND of a program, with those that it needs; NoName."""
        return self._program(name)[1]

    def needs(self, name):
        """The rising list of all programs that one needs, straight or not; NoName."""
        return all_needed(self._now.programs, self._program(name)[2])

    def whole(self, name):
        """A program in lets of all that it needs; NoName."""
        return closed(self._now.programs, self._program(name)[0])

    def runs(self):
        """The rising list of the numbers of all runs."""
        return sorted(self._now.machines)

    def outcome(self, number):
        """What a run has come to; NoRun."""
        return self._machine(number).outcome()

    def trace(self, number):
        """The trace of a run; NoRun."""
        return self._machine(number).trace()

    def counts(self, number):
        """The pair (calls, asks) of a run; NoRun."""
        return self._machine(number).counts()

    def sheet(self):
        """The sheet of the house."""
        return self._sheet

    def deeds(self):
        """How many deeds can be undone."""
        return self._now.many

    def twin(self):
        """A house of its own, the same, of which the log is empty."""
        other = House(self._sheet)
        other._now = self._now
        return other

    def do(self, deeds, *, whole=True):
        """Do deeds one behind the other: the list of what they tell; BadDeed, or what one is refused with."""
        bad = first_bad_deed(deeds)
        if bad is not None:
            raise BadDeed(bad)
        self._under_way += 1
        busy = self._under_way
        self._noted.append(("in", busy))
        ahead = self._now if whole else None
        try:
            told = [self._tell(deed) for deed in deeds]
            ahead = None
        finally:
            if ahead is not None:
                self._now = ahead
            self._under_way -= 1
            self._noted.append(("out", busy))
        return told

    def busy(self):
        """How many do are under way."""
        return self._under_way

    def log(self):
        """The list of ("in", busy) and ("out", busy) of all do."""
        return list(self._noted)

    def __eq__(self, other):
        if not isinstance(other, House) or self._sheet != other._sheet:
            return False
        return self._now.programs == other._now.programs and self._now.machines == other._now.machines

    def _program(self, name):
        """The triple of a program; NoName."""
        if name not in list(self._now.programs):
            raise NoName(name)
        return self._now.programs[name]

    def _machine(self, number):
        """The machine of a run; NoRun."""
        if type(number) is not int or number not in self._now.machines:
            raise NoRun(number)
        return self._now.machines[number]

    def _put_machine(self, number, machine):
        """A run stands as this machine."""
        machines = {**self._now.machines, number: machine}
        self._now = Standing(self._now.programs, machines, self._now)

    def _tell(self, deed):
        """Do a deed: what it tells."""
        word = deed[0]
        if word == "define":
            return self.define(deed[1], deed[2])
        if word == "drop":
            return self.drop(deed[1])
        if word == "start":
            return self.start(deed[1])
        if word == "go":
            return self.go(deed[1])
        if word == "answer":
            return self.answer(deed[1], deed[2])
        if word == "stop":
            return self.stop(deed[1])
        if word == "undo":
            return self.undo()
        return self.do(deed[1], whole=deed[2])
