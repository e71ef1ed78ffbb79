"""Plans: what the moves of a program's procedures do, told by masks, made once for many walks.

A procedure is told by its index, and a context by (index, mode, mask of the table). The states of a procedure are its
pairs of a point and a mode; the bit of a state is the point times the number of modes, plus the mode.
"""

from answeredabove.base.moves import modes_in, names_in, signals_answered
from answeredabove.know.masks import mask_of, table_mask, table_of
from answeredabove.know.tables import place_of


class Plan:
    """The plan of a program: `rows` tells for each procedure and state what can be done there, `calling` what each call
    does, and `ranks` how many procedures each one can come to by calls and answers, in the end, itself too. So one has
    a lower rank than another one that needs it and that it does not need; `upward` has them from low to high."""

    def __init__(self, program):
        self.source = program
        self.width = program.modes
        self.full = (1 << program.modes) - 1
        self.everything = (1 << (len(program.signals) * program.modes * program.modes)) - 1
        self.order = program.names
        self.places = {name: place for place, name in enumerate(program.names)}
        self.calling = {site: _call(self, number, program.move(site)) for number, site in enumerate(program.calls)}
        self.rows = [_rows(self, procedure) for procedure in program.procedures]
        self.ranks = _ranks(self)
        self.upward = [place for rank in range(len(program) + 1) for place in _of_rank(self.ranks, rank)]

    def packed(self, name, mode, table):
        """A context by masks."""
        return self.places[name], mode, table_mask(self.source, table)

    def unpacked(self, context):
        """A context as it is told outside."""
        place, mode, mask = context
        return self.order[place], mode, table_of(self.source, mask)


def inner_mask(plan, leaves, table, call):
    """The mask of the inner table of a call, resting on the masks of the leaves of its answers' procedures."""
    inner = table & call[4]
    for by, _, shift, resumes, _ in call[5]:
        for mode in range(plan.width):
            inner |= (leaves[(by, mode, table)][0] & resumes) << (shift + mode * plan.width)
    return inner


def answering(plan, table, call):
    """The contexts of the procedures by which a call answers, in every mode."""
    return [(answer[0], mode, table) for answer in call[5] for mode in range(plan.width)]


def _rows(plan, procedure):
    states = [(point, mode) for point in range(procedure.points) for mode in range(plan.width)]
    return [_row(plan, procedure, point, mode) for point, mode in states]


def _row(plan, procedure, point, mode):
    """The states to which goes lead, the modes that are left, what raises do, and what calls do."""
    led = 0
    left = 0
    raised = []
    calls = []
    for index, move in enumerate(procedure.moves):
        if move[1] == point and move[0] == "go":
            led |= mask_of([move[2] * plan.width + new for old, new in move[3] if old == mode])
        elif move[1] == point and mode in modes_in(move):
            if move[0] == "leave":
                left = 1 << mode
            elif move[0] == "raise":
                raised.append(_raise(plan, move, mode))
            else:
                calls.append(plan.calling[(procedure.called, index)])
    return led, left, tuple(raised), tuple(calls)


def _raise(plan, move, mode):
    """The bit of the escape, and how far the table's entry and the states behind the raise are shifted."""
    at = place_of(plan.source, move[3], mode)
    return 1 << at, at * plan.width, move[2] * plan.width


def _call(plan, number, move):
    """The number of the call, the procedure that is called, the shift of the states behind the call, the masks of the
    escapes that it lets pass and of the part of the table that it keeps, and its answers."""
    signals = [signal for signal in plan.source.signals if signal not in signals_answered(move)]
    passed = [place_of(plan.source, signal, mode) for signal in signals for mode in range(plan.width)]
    kept = entries_mask(plan, mask_of(passed))
    answers = [_answer(plan, answer) for answer in move[5]]
    return number, plan.places[move[3]], move[2] * plan.width, mask_of(passed), kept, tuple(answers)


def entries_mask(plan, escapes):
    """The mask of the entries of a table that belong to the escapes of a mask, each entry with all modes."""
    mask = 0
    for at in range(escapes.bit_length()):
        if (escapes >> at) & 1 == 1:
            mask |= plan.full << (at * plan.width)
    return mask


def _answer(plan, answer):
    """The answer's procedure, the shifts of its signal's escapes and entries, the mask of the modes in which it
    resumes, and for each mode in which it unwinds its bit and the bit of the state to which it unwinds."""
    signal, name, unwinds = answer
    first = place_of(plan.source, signal, 0)
    resumes = plan.full & ~mask_of([mode for mode, _ in unwinds])
    states = [(1 << mode, 1 << (point * plan.width + mode)) for mode, point in unwinds]
    return plan.places[name], first, first * plan.width, resumes, tuple(states)


def _ranks(plan):
    near = [_near(plan, procedure) for procedure in plan.source.procedures]
    ranks = []
    for place in range(len(near)):
        found = [place]
        at = 0
        while at < len(found):
            found.extend([other for other in near[found[at]] if other not in found])
            at += 1
        ranks.append(len(found))
    return ranks


def _of_rank(ranks, rank):
    return [place for place in range(len(ranks)) if ranks[place] == rank]


def _near(plan, procedure):
    """The different procedures that a procedure calls, or by which its calls answer."""
    names = [name for move in procedure.moves for name in names_in(move)]
    return [plan.places[name] for name in sorted(set(names))]
