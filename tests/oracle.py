"""What procedures do, found anew by the words of [0.18] and [0.19], by plain sets, and by going through runs."""

from answeredabove.run.runs import options


class Oracle:
    """The leaves and escapes of contexts, as the least sets; nothing is left out once it has come up."""

    def __init__(self, program, roots):
        self.program = program
        self.told = {root: (set(), set()) for root in roots}
        self.states = {}
        self.steps = {}
        before = None
        while before != self.size():
            before = self.size()
            for context in list(self.told):
                self.follow(context)
        self.met = set(roots)
        waiting = list(roots)
        while waiting:
            for other in self.steps[waiting.pop()] - self.met:
                self.met.add(other)
                waiting.append(other)

    def size(self):
        return len(self.told), sum(len(leaves) + len(escapes) for leaves, escapes in self.told.values())

    def tell(self, context):
        return self.told.setdefault(context, (set(), set()))

    def inner(self, table, move):
        """The inner table of a call under a table, as far as it is known."""
        by = {signal: (name, dict(unwinds)) for signal, name, unwinds in move[5]}
        made = []
        for row, signal in enumerate(self.program.signals):
            for mode in range(self.program.modes):
                if signal in by:
                    name, unwinds = by[signal]
                    leaves = self.tell((name, mode, table))[0]
                    made.append(tuple(sorted(end for end in leaves if end not in unwinds)))
                else:
                    made.append(table[row * self.program.modes + mode])
        return tuple(made)

    def follow(self, context):
        name, mode, table = context
        leaves, escapes = self.told[context]
        states, steps = {(0, mode)}, set()
        before = 0
        while before < len(states):
            before = len(states)
            for point, here in sorted(states):
                for move in self.program[name].moves:
                    if move[1] == point:
                        self.make(table, move, here, states, steps, leaves, escapes)
        self.states[context] = states
        self.steps[context] = steps

    def make(self, table, move, mode, states, steps, leaves, escapes):
        if move[0] == "go":
            states.update((move[2], new) for old, new in move[3] if old == mode)
        elif move[0] == "leave" and mode in move[2]:
            leaves.add(mode)
        elif move[0] == "raise" and mode in move[4]:
            escapes.add((move[3], mode))
            at = self.program.signals.index(move[3]) * self.program.modes + mode
            states.update((move[2], new) for new in table[at])
        elif move[0] == "call" and mode in move[4]:
            self.make_call(table, move, mode, states, steps, escapes)

    def make_call(self, table, move, mode, states, steps, escapes):
        called = (move[3], mode, self.inner(table, move))
        steps.add(called)
        answers = {signal: (name, dict(unwinds)) for signal, name, unwinds in move[5]}
        for name, _ in answers.values():
            for each in range(self.program.modes):
                steps.add((name, each, table))
                self.tell((name, each, table))
        left, escaped = self.tell(called)
        states.update((move[2], new) for new in left)
        for signal, raised in list(escaped):
            if signal not in answers:
                escapes.add((signal, raised))
            else:
                name, unwinds = answers[signal]
                ends, further = self.tell((name, raised, table))
                escapes |= further
                states.update((unwinds[new], new) for new in ends if new in unwinds)


def ends_of_runs(program, name, mode, table, deepest, most=20000):
    """The ends and the spots of all runs in which at most so many entries are open, and whether these are all runs."""
    first = (mode, (), (name, 0))
    seen, waiting, whole = {first}, [first], True
    while waiting and len(seen) < most:
        for behind in options(program, table, waiting.pop()):
            if len(behind[1]) > deepest:
                whole = False
            elif behind not in seen:
                seen.add(behind)
                waiting.append(behind)
    leaves = tuple(sorted(each[0] for each in seen if each[2] is None))
    escapes = tuple(sorted((each[2], each[0]) for each in seen if isinstance(each[2], str)))
    spots = tuple(sorted((each[2][1], each[0]) for each in seen if each[1] == () and isinstance(each[2], tuple)))
    return leaves, escapes, spots, whole and not waiting
