"""Traces: derivations of facts, made from what a solver was told and when.

Each line rests on what was told ahead of a time, so the lines are in order if their times are.
"""

from answeredabove.base.moves import answer_to, modes_in
from answeredabove.know.masks import escapes_of, modes_of, table_of
from answeredabove.know.plans import answering, inner_mask
from answeredabove.know.tables import place_of
from answeredabove.know.walks import NOTHING


def derivation_from(solver, context, end):
    """A derivation of a fact that the solver knows to be true: of a context by masks, and of an end as Trace has it."""
    traces = {}
    lines = {}
    seen = {}
    waiting = [(context, end, context[2])]
    while len(waiting) > 0:
        wanted = waiting.pop()
        if wanted not in seen:
            seen[wanted] = True
            time, path, rests = _line(solver, traces, wanted)
            fact = _fact(solver.plan, wanted)
            if fact not in lines or time < lines[fact][0]:
                lines[fact] = (time, path)
            waiting.extend(rests)
    goal = _fact(solver.plan, (context, end, context[2]))
    ordered = sorted([(time, fact) for fact, (time, _) in lines.items() if time <= lines[goal][0]])
    # Nothing rests on another fact of its own time, so the goal can come behind those.
    facts = [fact for _, fact in ordered if fact != goal] + [goal]
    return tuple([(fact, lines[fact][1]) for fact in facts])


def _fact(plan, wanted):
    context, end, mask = wanted
    name, mode, table = plan.unpacked((context[0], context[1], mask))
    return (end[0], name, mode, table) + end[1:]


def _line(solver, traces, wanted):
    """The time and the path of a line, and what is wanted for it.

    What is wanted is a context, an end, and the mask of the table that the line is to have. The context's own table is
    within this one, so its path stays as it is, and only the procedures that answer are wanted under the other table.
    """
    context, end, mask = wanted
    which, bit = _bit(solver.plan, end)
    context, time, told = solver.birth(context, which, bit)
    if time not in traces:
        traces[time] = Trace(solver.plan, told, context)
    path, rests = traces[time].ends[end]
    return time, path, [(need, what, mask if own else need[2]) for need, what, own in rests]


def _bit(plan, end):
    if end[0] == "leaves":
        return 0, 1 << end[1]
    return 1, 1 << place_of(plan.source, end[1], end[2])


class Trace:
    """The paths to all that follows for one context from what is told of others.

    `ends` has for each end, ("leaves", mode) or ("escapes", signal, mode), its path and what the path rests on: triples
    of a context, an end, and whether it is a procedure that answers, under the table of the path itself.
    """

    def __init__(self, plan, told, context):
        self._plan = plan
        self._told = told
        self._context = context
        self._paths = {(0, context[1]): ((), ())}
        self._states = [(0, context[1])]
        self.ends = {}
        at = 0
        while at < len(self._states):
            self._follow(self._states[at])
            at += 1

    def path_to(self, state):
        """The path to a pair of a point and a mode, or None if it is not come to."""
        return self._paths[state][0] if state in self._paths else None

    def _follow(self, state):
        name = self._plan.order[self._context[0]]
        for index, move in enumerate(self._plan.source[name].moves):
            if move[1] == state[0] and move[0] == "go":
                for new in [pair[1] for pair in move[3] if pair[0] == state[1]]:
                    self._lead(state, (move[2], new), ("go", index, new), ())
            elif move[1] == state[0] and state[1] in modes_in(move):
                self._make(state, index, move)

    def _make(self, state, index, move):
        if move[0] == "leave":
            self._end(state, ("leaves", state[1]), ("leave", index), ())
        elif move[0] == "raise":
            self._end(state, ("escapes", move[3], state[1]), ("raise", index), ())
            at = place_of(self._plan.source, move[3], state[1])
            for new in modes_of((self._context[2] >> (at * self._plan.width)) & self._plan.full):
                self._lead(state, (move[2], new), ("raise", index, new), ())
        else:
            self._make_call(state, index, move)

    def _make_call(self, state, index, move):
        call = self._plan.calling[(self._plan.order[self._context[0]], index)]
        if not all([context in self._told for context in answering(self._plan, self._context[2], call)]):
            return
        inner = inner_mask(self._plan, self._told, self._context[2], call)
        for context in self._told:
            # Under each table within the inner one what is told is true under the inner one, too.
            if context[:2] == (call[1], state[1]) and context[2] & ~inner == 0:
                self._call(state, index, move, context)

    def _call(self, state, index, move, context):
        left, escaped = self._told[context]
        shown = self._shown(move, context[2])
        step = ("call", index, table_of(self._plan.source, context[2]))
        for new in modes_of(left):
            self._lead(state, (move[2], new), step + (new,), ((context, ("leaves", new), False),) + shown)
        for signal, raised in escapes_of(self._plan.source, escaped):
            rests = ((context, ("escapes", signal, raised), False),) + shown
            answer = answer_to(move, signal)
            if answer is None:
                self._end(state, ("escapes", signal, raised), step, rests)
            else:
                self._answer(state, step + (signal, raised), answer, rests)

    def _answer(self, state, step, answer, rests):
        signal, by, unwinds = answer
        context = (self._plan.places[by], step[4], self._context[2])
        left, escaped = self._told.get(context, NOTHING)
        for new, point in unwinds:
            if (left >> new) & 1 == 1:
                unwind = ("unwind",) + step[1:] + (new,)
                self._lead(state, (point, new), unwind, rests + ((context, ("leaves", new), True),))
        for end in escapes_of(self._plan.source, escaped):
            told = ("escapes",) + end
            self._end(state, told, ("answer",) + step[1:], rests + ((context, told, True),))

    def _shown(self, move, inner):
        """What shows an inner table: the leaves of the procedures that answer, for all modes that it has of them."""
        found = []
        for signal, by, _ in move[5]:
            for mode in range(self._plan.width):
                at = place_of(self._plan.source, signal, mode)
                for end in modes_of((inner >> (at * self._plan.width)) & self._plan.full):
                    context = (self._plan.places[by], mode, self._context[2])
                    found.append((context, ("leaves", end), True))
        return tuple(found)

    def _lead(self, state, there, step, rests):
        if there not in self._paths:
            path, before = self._paths[state]
            self._paths[there] = (path + (step,), before + rests)
            self._states.append(there)

    def _end(self, state, end, step, rests):
        if end not in self.ends:
            path, before = self._paths[state]
            self.ends[end] = (path + (step,), before + rests)
