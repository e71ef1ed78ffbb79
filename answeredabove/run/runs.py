"""Runs: situations one after another, each one an option of the one before it."""

from answeredabove.base.checks import check_program, check_signal
from answeredabove.base.words import is_below, is_between
from answeredabove.errors import InvalidMode, InvalidNumber, InvalidOperation, InvalidRun, TooMany
from answeredabove.know.tables import check_context, check_table, empty_table
from answeredabove.run.situations import call_answering, has_situation_form, is_over, move_at, told_options

MOST_STEPS = 1000


def is_situation(program, value):
    """Whether the value is a situation of the program by its form, also if no run comes to it."""
    check_program(program)
    return has_situation_form(program, value)


def looked_up(program, situation, signal):
    """The index in what is open of the call that answers a signal raised now, or None."""
    check_program(program)
    _check_situation(program, situation)
    check_signal(program, signal)
    return call_answering(program, situation[1], signal)


def options(program, table, situation):
    """The tuple of the situations behind one step under a table."""
    check_program(program)
    check_table(program, table)
    _check_situation(program, situation)
    return _options_under(program, table, situation)


class Run:
    """A run of a procedure from a mode under a table. It never changes."""

    def __init__(self, program, name, mode, table, *choices):
        check_context(program, name, mode, table)
        self._program = program
        self._called = name
        self._table = table
        self._choices = choices
        self._situations = _situations_along(program, table, (mode, (), (name, 0)), choices)
        if len(choices) > MOST_STEPS:
            raise TooMany(MOST_STEPS)

    @classmethod
    def of(cls, program, name, mode, table, choices):
        """The run with the choices of a tuple."""
        check_context(program, name, mode, table)
        if not isinstance(choices, tuple):
            raise InvalidRun("the choices of a run are a tuple")
        return cls(program, name, mode, table, *choices)

    @classmethod
    def own(cls, program, start, choices):
        """One of the program's own runs: of the main procedure, from a start, under the empty table."""
        check_program(program)
        if not _is_start(program, start):
            raise InvalidMode("this is no start of the program")
        if not isinstance(choices, tuple):
            raise InvalidRun("the choices of a run are a tuple")
        return cls(program, program.main, start, empty_table(program), *choices)

    @property
    def program(self):
        """The program of the run."""
        return self._program

    @property
    def called(self):
        """The name of the first procedure."""
        return self._called

    @property
    def table(self):
        """The table under which the run goes."""
        return self._table

    @property
    def choices(self):
        """The indexes of the options that were taken."""
        return self._choices

    @property
    def situation(self):
        """The last situation."""
        return self._situations[-1]

    @property
    def situations(self):
        """All situations, the first one too."""
        return self._situations

    @property
    def mode(self):
        """The mode of the last situation."""
        return self._situations[-1][0]

    @property
    def has_ended(self):
        """Whether the last situation has ended."""
        return is_over(self._situations[-1])

    @property
    def deepest(self):
        """The greatest number of entries that are open in a situation."""
        return max([len(situation[1]) for situation in self._situations])

    @property
    def answered(self):
        """The answers that were begun, in order."""
        return _answers_begun(self._program, self._situations)

    def __add__(self, other):
        behind = _options_under(self._program, self._table, self._situations[-1])
        if not is_below(other, len(behind)):
            raise InvalidOperation("this is the index of no option")
        if len(self._choices) >= MOST_STEPS:
            raise TooMany(MOST_STEPS)
        return self._with_steps(self._choices + (other,), self._situations + (behind[other],))

    def __len__(self):
        return len(self._choices)

    def __eq__(self, other):
        return (
            isinstance(other, Run)
            and self._program == other._program
            and self._called == other._called
            and self._situations[0] == other._situations[0]
            and self._table == other._table
            and self._choices == other._choices
        )

    def __str__(self):
        return f"run of {len(self._choices)} steps, {len(self.answered)} answered"

    def back(self, *, many=1):
        """The run without its last steps."""
        if not is_between(many, 0, len(self._choices)):
            raise InvalidNumber(many)
        kept = len(self._choices) - many
        return self._with_steps(self._choices[:kept], self._situations[:kept + 1])

    def _with_steps(self, choices, situations):
        # The situations are known already, so the run is not gone through once more.
        made = Run(self._program, self._called, self._situations[0][0], self._table)
        made._choices = choices
        made._situations = situations
        return made


def _check_situation(program, situation):
    if not has_situation_form(program, situation):
        raise InvalidOperation("this is no situation of the program")


def _is_start(program, value):
    return is_below(value, program.modes) and value in program.starts


def _options_under(program, table, situation):
    return tuple([behind for _, behind in told_options(program, table, situation)])


def _situations_along(program, table, first, choices):
    found = [first]
    for choice in choices:
        behind = _options_under(program, table, found[-1])
        if not is_below(choice, len(behind)):
            raise InvalidRun("a choice of a run is the index of an option")
        found.append(behind[choice])
    return tuple(found)


def _answers_begun(program, situations):
    found = []
    for before, behind in zip(situations, situations[1:]):
        entries = behind[1]
        # Only a call and an answered raise open something, and only an open raise has a level.
        if len(entries) > len(before[1]) and len(entries[-1]) == 3:
            last = entries[-1]
            name, index = entries[last[2]]
            found.append((name, index, move_at(program, last)[3]))
    return tuple(found)
