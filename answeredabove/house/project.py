"""Projects: a program that changes step by step, while promises stay kept."""

from answeredabove.base.checks import check_program
from answeredabove.base.words import is_count, is_name
from answeredabove.errors import InvalidNumber, InvalidOperation, NothingToUndo, Refused, UnknownName
from answeredabove.house.promises import is_kept, is_promise


class Course:
    """All that a project keeps. It never changes.

    `moments` has a triple (name of the call that led to it, program, dict of promises) for each moment, the first one
    too; `now` is the index of the one at hand. Behind it is what can be done again.
    """

    def __init__(self, moments, now):
        self.moments = moments
        self.now = now

    def moment(self):
        """The moment at hand."""
        return self.moments[self.now]


class Trial:
    """A block behind which a project is as it was before."""

    def __init__(self, project):
        self._project = project
        self._held = None

    def __enter__(self):
        self._held = Held(self._project._course, self._held)
        return self._project

    def __exit__(self, kind, value, trace):
        project = self._project
        project._course = self._held.course
        self._held = self._held.outer


class Held:
    """What a trial goes back to, and what the same trial goes back to further out."""

    def __init__(self, course, outer):
        self.course = course
        self.outer = outer


class Project:
    """A program that changes, with promises that stay kept."""

    def __init__(self, program):
        check_program(program)
        self._course = Course((("", program, {}),), 0)

    @property
    def program(self):
        """The program as it is now."""
        return self._course.moment()[1]

    @property
    def promises(self):
        """The promises by their names."""
        kept = self._course.moment()[2]
        return {name: kept[name] for name in sorted(kept)}

    @property
    def deeds(self):
        """The names of the calls that have not been taken back, in order."""
        return tuple([moment[0] for moment in self._course.moments[1:self._course.now + 1]])

    def promise(self, name, *terms):
        """Makes a promise under a new name."""
        if not is_name(name) or name in self or not is_promise(terms):
            raise InvalidOperation("this is no new promise")
        if not is_kept(self.program, terms):
            raise Refused(name)
        promises = self.promises
        promises[name] = terms
        self._go_on("promise", self.program, promises)

    def forget(self, name):
        """Takes a promise back for good."""
        if name not in self:
            raise UnknownName(name)
        promises = self.promises
        del promises[name]
        self._go_on("forget", self.program, promises)

    def put(self, procedure):
        """Puts a procedure in the place of the one with the same name, or behind all others."""
        self._change("put", self.program.with_procedure(procedure))

    def drop(self, name):
        """Takes a procedure out."""
        self._change("drop", self.program.without(name))

    def answer(self, site, answers):
        """Gives a call other answers."""
        self._change("answer", self.program.with_answers(site, answers))

    def start(self, starts):
        """Gives the program other starts."""
        self._change("start", self.program.with_starts(starts))

    def undo(self, *, many=1):
        """Takes so many calls back; how many can be taken back then."""
        _check_many(many, self._course.now)
        self._course = Course(self._course.moments, self._course.now - many)
        return self._course.now

    def redo(self, *, many=1):
        """Does so many calls again; how many can be taken back then."""
        _check_many(many, len(self._course.moments) - 1 - self._course.now)
        self._course = Course(self._course.moments, self._course.now + many)
        return self._course.now

    def trial(self):
        """What gives the project to a block, behind which the project is as it was before."""
        return Trial(self)

    def during(self, call):
        """What the call returns of the project, which then is as it was before."""
        with self.trial():
            return call(self)

    def twin(self):
        """An independent copy."""
        made = Project(self.program)
        made._course = self._course
        return made

    def __getitem__(self, at):
        if at not in self:
            raise UnknownName(at)
        return self._course.moment()[2][at]

    def __iter__(self):
        raise TypeError("a project cannot be iterated over")

    def __contains__(self, x):
        return isinstance(x, str) and x in self._course.moment()[2]

    def __len__(self):
        return len(self._course.moment()[2])

    def __eq__(self, other):
        return isinstance(other, Project) and self.program == other.program and self.promises == other.promises

    def __str__(self):
        return f"project of {len(self.program)} procedures, {len(self.promises)} promises"

    def _change(self, deed, program):
        promises = self.promises
        for name in promises:
            if not is_kept(program, promises[name]):
                raise Refused(name)
        self._go_on(deed, program, promises)

    def _go_on(self, deed, program, promises):
        behind = self._course.moments[:self._course.now + 1] + ((deed, program, promises),)
        self._course = Course(behind, self._course.now + 1)


def _check_many(many, most):
    if not is_count(many):
        raise InvalidNumber(many)
    if many > most:
        raise NothingToUndo(many)
