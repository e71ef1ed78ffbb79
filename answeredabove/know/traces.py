"""Traces: derivations of facts, made from what a solver was told and when.

Each line rests on what was told ahead of a time, so the lines are in order if their times are.
"""

from heapq import heappop, heappush

from answeredabove.base.moves import answer_to, modes_in
from answeredabove.know.masks import MODE_SETS
from answeredabove.know.walks import NOTHING

# How long steps are taken to be, where those of what is called and of what answers are not counted.
PLAIN = 1
RESUMED = 3
CALLED = 6
ANSWERED = 10


def derivation_from(solver, cell, end, mask):
    """A derivation of a fact that is true: of a cell and an end as Trace has it, under the table of a mask within which
    that of the cell is."""
    traces = {}
    lines = {}
    seen = {}
    goal = _fact(solver.plan, cell.spot, end, mask)
    waiting = [(cell.spot, cell.mask, end, mask)]
    while len(waiting) > 0:
        wanted = waiting.pop()
        if wanted not in seen:
            seen[wanted] = True
            time, path, rests = _line(solver, traces, wanted)
            fact = _fact(solver.plan, wanted[0], wanted[2], wanted[3])
            if fact not in lines or time < lines[fact][0]:
                lines[fact] = (time, path)
            waiting.extend(rests)
    ordered = sorted([(time, fact) for fact, (time, _) in lines.items() if time <= lines[goal][0]])
    # Nothing rests on another fact of its own time, so the goal can come behind those.
    facts = [fact for _, fact in ordered if fact != goal] + [goal]
    return tuple([(fact, lines[fact][1]) for fact in facts])


def birth(solver, cell, end):
    """When and on what an end of a cell was first told: the cell itself, or the one from which it was taken over; the
    time; and what was told ahead of that time of the cells that it needs, by pairs (spot, mask)."""
    which = 1
    bit = 0
    if end[0] == "leaves":
        bit = 1 << end[1]
    else:
        which = 2
        bit = 1 << solver.plan.place_of(end[1], end[2])
    born = _first(cell, which, bit)
    while born[3] is not None:
        cell = born[3]
        born = _first(cell, which, bit)
    told = {}
    for need in cell.needs:
        ahead = [(left, escaped) for time, left, escaped, _ in need.past if time < born[0]]
        if len(ahead) > 0:
            told[(need.spot, need.mask)] = ahead[-1]
    return cell, born[0], told


def _first(cell, which, bit):
    return [each for each in cell.past if each[which] & bit > 0][0]


def _fact(plan, spot, end, mask):
    return (end[0],) + plan.unpacked(spot, mask) + end[1:]


def _line(solver, traces, wanted):
    """The time and the path of a line, and what is wanted for it.

    What is wanted is the spot and the mask of a cell, an end, and the mask of the table that the line is to have. The
    cell's own mask is within this one, so its path stays as it is, and only the procedures that answer are wanted under
    the other table.
    """
    spot, own, end, mask = wanted
    cell, time, told = birth(solver, solver.cell(spot, own), end)
    # What rests on nothing is told ahead of all else, many at a time.
    if (time, cell.number) not in traces:
        traces[(time, cell.number)] = Trace(solver.plan, told, cell.spot, cell.mask)
    path, rests = traces[(time, cell.number)].found(end)
    return time, path, [(there, part, what, mask if answers else part) for there, part, what, answers in rests]


class Trace:
    """The paths to what follows for one context from what is told of others, by pairs (spot, mask of the table).

    They are found as they are asked for: to a state, (point, mode), and to an end, ("leaves", mode) or ("escapes",
    signal, mode). Of several paths a short one is taken, so that runs along derivations are not long.
    """

    def __init__(self, plan, told, spot, mask):
        self._plan = plan
        self._told = told
        self._place = spot // plan.width
        self._mask = mask
        self._paths = {}
        self._costs = {}
        self._ways = []
        self._queue = []
        self._push(0, (0, plan.mode_at(spot)), (), ())

    def found(self, there):
        """The path to a state or to an end, and what it rests on: tuples (spot, mask, end, whether it is a procedure
        that answers, under the table of the path itself); or None if it is not come to."""
        while there not in self._paths and len(self._queue) > 0:
            cost, number = heappop(self._queue)
            here, path, rests = self._ways[number]
            if here not in self._paths:
                self._paths[here] = (path, rests)
                self._costs[here] = cost
                # A state begins with its point, an end with a word.
                if not isinstance(here[0], str):
                    self._follow(here)
        return self._paths.get(there, None)

    def _follow(self, state):
        for index, move in enumerate(self._plan.bodies[self._place].moves):
            if move[1] == state[0] and move[0] == "go":
                for new in [pair[1] for pair in move[3] if pair[0] == state[1]]:
                    self._lead(state, (move[2], new), ("go", index, new), PLAIN)
            elif move[1] == state[0] and state[1] in modes_in(move):
                self._make(state, index, move)

    def _make(self, state, index, move):
        if move[0] == "leave":
            self._lead(state, ("leaves", state[1]), ("leave", index), PLAIN)
        elif move[0] == "raise":
            self._lead(state, ("escapes", move[3], state[1]), ("raise", index), PLAIN)
            for new in self._entry(self._mask, self._plan.place_of(move[3], state[1])):
                self._lead(state, (move[2], new), ("raise", index, new), RESUMED)
        else:
            self._make_call(state, index, move)

    def _make_call(self, state, index, move):
        call = self._plan.sheets[self._place].calls_made[index]
        inner = self._mask & call.kept
        for spot, _, shift, resumes, _ in call.asks:
            inner |= (self._told.get(self._answering(spot), NOTHING)[0] & resumes) << shift
        for spot, mask in self._told:
            # Under each table within the inner one what is told is true under the inner one, too.
            if spot == call.base + state[1] and mask & ~inner == 0:
                self._call(state, index, move, (spot, mask))

    def _call(self, state, index, move, context):
        left, escaped = self._told[context]
        shown = self._shown(move, context[1])
        step = ("call", index, self._plan.table_of(context[1]))
        for new in MODE_SETS[left]:
            rests = (context + (("leaves", new), False),) + shown
            self._lead(state, (move[2], new), step + (new,), CALLED, rests)
        for signal, raised in self._plan.escapes_of(escaped):
            rests = (context + (("escapes", signal, raised), False),) + shown
            answer = answer_to(move, signal)
            if answer is None:
                self._lead(state, ("escapes", signal, raised), step, CALLED, rests)
            else:
                self._answer(state, step + (signal, raised), answer, rests)

    def _answer(self, state, step, answer, rests):
        signal, by, unwinds = answer
        context = self._answering(self._plan.spot_of(by, step[4]))
        left, escaped = self._told.get(context, NOTHING)
        for new, point in unwinds:
            if (left >> new) & 1 == 1:
                unwind = ("unwind",) + step[1:] + (new,)
                self._lead(state, (point, new), unwind, ANSWERED, rests + (context + (("leaves", new), True),))
        for end in self._plan.escapes_of(escaped):
            told = ("escapes",) + end
            self._lead(state, told, ("answer",) + step[1:], ANSWERED, rests + (context + (told, True),))

    def _answering(self, spot):
        """The context of a procedure that answers, under the part of the table that matters to it."""
        return spot, self._mask & self._plan.scopes[spot]

    def _entry(self, mask, at):
        return MODE_SETS[(mask >> (at * self._plan.width)) & self._plan.full]

    def _shown(self, move, inner):
        """What shows an inner table: the leaves of the procedures that answer, for all modes that it has of them."""
        found = []
        for signal, by, _ in move[5]:
            for mode in range(self._plan.width):
                context = self._answering(self._plan.spot_of(by, mode))
                for end in self._entry(inner, self._plan.place_of(signal, mode)):
                    found.append(context + (("leaves", end), True))
        return tuple(found)

    def _lead(self, state, there, step, cost, rests=()):
        """Takes a step that leads to another state or to an end."""
        if there not in self._paths:
            path, before = self._paths[state]
            self._push(self._costs[state] + cost, there, path + (step,), before + rests)

    def _push(self, cost, there, path, rests):
        heappush(self._queue, (cost, len(self._ways)))
        self._ways.append((there, path, rests))
