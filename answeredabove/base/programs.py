"""Procedures and programs, and programs that differ in a part."""

from answeredabove.base.moves import are_answers, is_move, names_in, renamed_move
from answeredabove.base.moves import signals_answered, signals_in, with_other_answers, without_signals
from answeredabove.base.words import is_ascending, is_below, is_between, is_mode_set, is_name, is_tuple
from answeredabove.errors import InvalidOperation, InvalidProgram, UnknownName, UnknownSite

MOST_MODES = 4
MOST_SIGNALS = 3
MOST_PROCEDURES = 9
MOST_POINTS = 6
MOST_MOVES = 12


class Procedure:
    """A procedure: its name, the number of its points, and its moves. It never changes."""

    def __init__(self, called, points, *moves):
        if not _are_procedure_parts(called, points, moves):
            raise InvalidProgram("these values make no procedure")
        self._called = called
        self._points = points
        self._moves = moves

    @classmethod
    def of(cls, called, points, moves):
        """The procedure with the moves of a tuple."""
        if not isinstance(moves, tuple):
            raise InvalidProgram("the moves of a procedure are a tuple")
        return cls(called, points, *moves)

    @property
    def called(self):
        """The name of the procedure."""
        return self._called

    @property
    def points(self):
        """How many points the procedure has."""
        return self._points

    @property
    def moves(self):
        """The moves in their order."""
        return self._moves

    def __eq__(self, other):
        return (
            isinstance(other, Procedure)
            and self._called == other._called
            and self._points == other._points
            and self._moves == other._moves
        )

    def __len__(self):
        return len(self._moves)

    def __str__(self):
        return f"procedure {self._called}, {self._points} points, {len(self._moves)} moves"


class Notes:
    """What other modules have found out about a program. As the program never changes, it stays true."""

    def __init__(self):
        self.plan = None
        self.solver = None
        self.apart = None
        self.few_tables = None
        self.beginning = None
        self.outcomes = None


class Program:
    """A program: modes, starts, signals, and procedures. It never changes."""

    def __init__(self, modes, starts, signals, *procedures):
        if not _are_program_parts(modes, starts, signals, procedures):
            raise InvalidProgram("these values make no program")
        self._modes = modes
        self._starts = starts
        self._signals = signals
        self._procedures = procedures
        self._by_name = {procedure.called: procedure for procedure in procedures}
        self._notes = Notes()

    @classmethod
    def of(cls, modes, starts, signals, procedures):
        """The program with the procedures of a tuple."""
        if not isinstance(procedures, tuple):
            raise InvalidProgram("the procedures of a program are a tuple")
        return cls(modes, starts, signals, *procedures)

    @property
    def modes(self):
        """How many modes the program has."""
        return self._modes

    @property
    def starts(self):
        """The modes in which the program's own runs begin."""
        return self._starts

    @property
    def signals(self):
        """The signals, ascending."""
        return self._signals

    @property
    def procedures(self):
        """The procedures in their order."""
        return self._procedures

    @property
    def names(self):
        """The names of the procedures in their order."""
        return tuple([procedure.called for procedure in self._procedures])

    @property
    def main(self):
        """The name of the first procedure."""
        return self._procedures[0].called

    @property
    def calls(self):
        """The sites of all calls, in order."""
        return _sites(self._procedures, "call")

    @property
    def raises(self):
        """The sites of all raises, in order."""
        return _sites(self._procedures, "raise")

    @property
    def answers(self):
        """All answers, each as the site of its call and its signal, in order."""
        return tuple([
            (procedure.called, index, signal)
            for procedure in self._procedures
            for index, move in enumerate(procedure.moves)
            for signal in signals_answered(move)
        ])

    def __getitem__(self, at):
        if at not in self:
            raise UnknownName(at)
        return self._by_name[at]

    def __iter__(self):
        raise TypeError("a program cannot be iterated over")

    def __contains__(self, x):
        return isinstance(x, str) and x in self._by_name

    def __len__(self):
        return len(self._procedures)

    def __eq__(self, other):
        return (
            isinstance(other, Program)
            and self._modes == other._modes
            and self._starts == other._starts
            and self._signals == other._signals
            and self._procedures == other._procedures
        )

    def __str__(self):
        return f"program of {len(self._procedures)} procedures, {self._modes} modes, {len(self._signals)} signals"

    def move(self, site):
        """The move at a site."""
        if not is_site(self, site):
            raise UnknownSite(site)
        return self[site[0]].moves[site[1]]

    def with_starts(self, starts):
        """The program with other starts."""
        if not is_mode_set(starts, self._modes):
            raise InvalidOperation("the starts are no mode set of the program")
        return Program.of(self._modes, starts, self._signals, self._procedures)

    def with_procedure(self, procedure):
        """The program with a procedure in the place of the one with the same name, or as the last one."""
        if not isinstance(procedure, Procedure):
            raise InvalidOperation("this is no procedure")
        if procedure.called in self:
            return self._with_in_place(procedure)
        return self._with_procedures(self._procedures + (procedure,))

    def without(self, name):
        """The program without the procedure of this name."""
        if name not in self:
            raise UnknownName(name)
        return self._with_procedures(tuple([each for each in self._procedures if each.called != name]))

    def with_answers(self, site, answers):
        """The program with other answers for the call at a site."""
        if not is_call(self, site):
            raise UnknownSite(site)
        procedure = self[site[0]]
        if not are_answers(answers, procedure.points, self._modes):
            raise InvalidOperation("these are no answers of a call of the procedure")
        moves = list(procedure.moves)
        moves[site[1]] = with_other_answers(moves[site[1]], answers)
        return self._with_in_place(Procedure.of(procedure.called, procedure.points, tuple(moves)))

    def without_answers(self, answers):
        """The program without the answers of a tuple."""
        check_answers(self, answers)
        return self._with_procedures(tuple([_without_answers(each, answers) for each in self._procedures]))

    def renamed(self, names):
        """The program with new names for some procedures; names is a dict from old names to new ones."""
        if not isinstance(names, dict) or not all([old in self and is_name(new) for old, new in names.items()]):
            raise InvalidOperation("this is no dict from procedures to names")
        return self._with_procedures(tuple([_renamed(each, names) for each in self._procedures]))

    def _with_in_place(self, procedure):
        kept = [procedure if each.called == procedure.called else each for each in self._procedures]
        return self._with_procedures(tuple(kept))

    def _with_procedures(self, procedures):
        try:
            return Program.of(self._modes, self._starts, self._signals, procedures)
        except InvalidProgram:
            raise InvalidOperation("the result would be no program") from None


def notes_of(program):
    """What is kept about a program, for the modules that find it out."""
    return program._notes


def is_site(program, value):
    """Whether the value is the site of a move of the program."""
    return is_tuple(value, 2) and value[0] in program and is_below(value[1], len(program[value[0]]))


def is_call(program, value):
    """Whether the value is the site of a call of the program."""
    return is_site(program, value) and program.move(value)[0] == "call"


def is_answer(program, value):
    """Whether the value tells an answer of the program, by the site of its call and its signal."""
    if not is_tuple(value, 3) or value[0] not in program:
        return False
    moves = program[value[0]].moves
    return is_below(value[1], len(moves)) and value[2] in signals_answered(moves[value[1]])


def check_answers(program, answers):
    """Refuses what is no tuple of answers of the program, and the first entry that is none."""
    if not isinstance(answers, tuple):
        raise UnknownSite(answers)
    for answer in answers:
        if not is_answer(program, answer):
            raise UnknownSite(answer)


def _are_procedure_parts(called, points, moves):
    if not is_name(called) or not is_between(points, 1, MOST_POINTS) or len(moves) > MOST_MOVES:
        return False
    return all([is_move(move, points, MOST_MODES) for move in moves])


def _are_program_parts(modes, starts, signals, procedures):
    if not is_between(modes, 1, MOST_MODES) or not is_mode_set(starts, modes) or not _are_signals(signals):
        return False
    if not 1 <= len(procedures) <= MOST_PROCEDURES:
        return False
    if not all([isinstance(each, Procedure) for each in procedures]):
        return False
    names = [procedure.called for procedure in procedures]
    if len(set(names)) < len(names):
        return False
    return all([_fits(each, modes, signals, names) for each in procedures])


def _are_signals(value):
    if not isinstance(value, tuple) or len(value) > MOST_SIGNALS:
        return False
    return all([is_name(signal) for signal in value]) and is_ascending(value)


def _fits(procedure, modes, signals, names):
    # A procedure is made for four modes and for any names, so a program asks again.
    for move in procedure.moves:
        if not is_move(move, procedure.points, modes):
            return False
        if not all([name in names for name in names_in(move)]):
            return False
        if not all([signal in signals for signal in signals_in(move)]):
            return False
    return True


def _sites(procedures, kind):
    return tuple([
        (procedure.called, index)
        for procedure in procedures
        for index, move in enumerate(procedure.moves)
        if move[0] == kind
    ])


def _without_answers(procedure, answers):
    moves = []
    for index, move in enumerate(procedure.moves):
        site = (procedure.called, index)
        moves.append(without_signals(move, [answer[2] for answer in answers if answer[:2] == site]))
    return Procedure.of(procedure.called, procedure.points, tuple(moves))


def _renamed(procedure, names):
    called = names.get(procedure.called, procedure.called)
    moves = [renamed_move(move, names) for move in procedure.moves]
    return Procedure.of(called, procedure.points, tuple(moves))
