"""Who answers: watched contexts, and what becomes of answers in the program's own runs."""

from answeredabove.ask.lookouts import Lookout
from answeredabove.base.checks import check_mode, check_program
from answeredabove.base.moves import answer_to
from answeredabove.base.programs import is_answer, is_site
from answeredabove.errors import UnknownSite
from answeredabove.know.masks import MODE_SETS


def watched(program):
    """The watched contexts of a program, ascending."""
    check_program(program)
    return Lookout(program).all_watched()


def answerers(program, site):
    """The pairs of a mode and a call such that the program's own runs raise at the site in the mode, and the call, or
    () for none, answers."""
    check_program(program)
    if not is_site(program, site) or program.move(site)[0] != "raise":
        raise UnknownSite(site)
    _, point, _, signal, modes = program.move(site)
    place = program.names.index(site[0])
    at = program.signals.index(signal)
    lookout = Lookout(program)
    found = {}
    for here in lookout.links:
        if here[0] // program.modes == place:
            come = lookout.reach_of(here) >> (point * program.modes)
            for mode in [each for each in modes if (come >> each) & 1 == 1]:
                found[(mode, here[2][at])] = True
    return tuple(sorted(found))


class Answers:
    """What becomes of the answers in the program's own runs. It never changes."""

    def __init__(self, program):
        check_program(program)
        lookout = Lookout(program)
        self._program = program
        self._begun = {}
        self._resumes = {}
        self._unwinds = {}
        for answer in lookout.begins:
            self._begun[answer] = tuple(sorted(lookout.begins[answer]))
            ends = [(mode, left) for mode in self._begun[answer] for left in MODE_SETS[lookout.lefts(answer, mode)]]
            unwinds = dict(answer_to(program.move(answer[:2]), answer[2])[2])
            self._resumes[answer] = tuple([end for end in ends if end[1] not in unwinds])
            self._unwinds[answer] = tuple([end for end in ends if end[1] in unwinds])

    @property
    def program(self):
        """The program."""
        return self._program

    @property
    def idle(self):
        """The answers that never begin, in their order."""
        return tuple([answer for answer in self._program.answers if answer not in self._begun])

    def begun(self, answer):
        """The modes in which an answer begins, ascending."""
        _check_answer(self._program, answer)
        return self._begun.get(answer, ())

    def resumed(self, answer):
        """The pairs of a mode in which an answer begins and a mode in which it is then left and resumes, ascending."""
        _check_answer(self._program, answer)
        return self._resumes.get(answer, ())

    def unwound(self, answer):
        """The pairs of a mode in which an answer begins and a mode in which it is then left and unwinds, ascending."""
        _check_answer(self._program, answer)
        return self._unwinds.get(answer, ())

    def __getitem__(self, at):
        _check_answer(self._program, at)
        return self._begun.get(at, ())

    def __iter__(self):
        raise TypeError("answers cannot be iterated over")

    def __contains__(self, x):
        return is_answer(self._program, x) and x in self._begun

    def __len__(self):
        return len(self._begun)

    def __eq__(self, other):
        return isinstance(other, Answers) and self._program == other._program

    def __str__(self):
        return f"{len(self._begun)} of {len(self._program.answers)} answers begin"


def run_with(program, answer, mode):
    """One of the program's own runs whose last step begins the answer in the mode, or None."""
    check_program(program)
    _check_answer(program, answer)
    check_mode(program, mode)
    lookout = Lookout(program)
    links = lookout.begins.get(answer, {}).get(mode, [])
    if len(links) == 0:
        return None
    return lookout.guide.run_along(lookout.start(links[0]), lookout.parts(links[0]))


def _check_answer(program, value):
    if not is_answer(program, value):
        raise UnknownSite(value)
