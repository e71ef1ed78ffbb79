"""The program's own runs, gone through step by step, and what they show of who answers."""

from answeredabove.know.tables import empty_table
from answeredabove.run.runs import looked_up, options


class Wander:
    """What the program's own runs show in which at most so many entries are open; `whole` if these are all runs.

    `entered` has (name, mode, watch), `raised` (site, mode, call or ()), `begun` (answer, mode), `left` (answer, mode,
    mode in which it is left); `depth` is the greatest number of open raises.
    """

    def __init__(self, program, deepest=5, most=3000):
        self.program = program
        self.table = empty_table(program)
        self.entered, self.raised, self.begun, self.left = set(), set(), set(), set()
        self.depth, self.whole = 0, True
        first = [((start, (), (program.main, 0)), ()) for start in program.starts]
        for situation, _ in first:
            self.enter(situation)
        seen, waiting = set(first), list(first)
        for situation, began in waiting:
            self.depth = max(self.depth, len(began))
            for behind in options(program, self.table, situation):
                self.whole = self.whole and len(behind[1]) <= deepest and len(seen) < most
                if len(behind[1]) <= deepest and len(seen) < most:
                    state = behind, self.step(situation, began, behind)
                    if state not in seen:
                        seen.add(state)
                        waiting.append(state)

    def step(self, before, began, behind):
        """Notes what a step shows; the pairs of an answer and the mode in which it began, one for each open raise."""
        if not isinstance(behind[2], tuple):
            if behind[2] is not None:
                # What escapes is a raise at the spot that nothing answers.
                for index, move in enumerate(self.program[before[2][0]].moves):
                    if move[:2] == ("raise", before[2][1]) and move[3] == behind[2] and before[0] in move[4]:
                        self.raised.add(((before[2][0], index), before[0], ()))
            return ()
        if len(behind[1]) > len(before[1]):
            self.enter(behind)
            entry = behind[1][-1]
            if len(entry) == 3:
                call = behind[1][entry[2]]
                answer = call + (self.program.move(entry[:2])[3],)
                self.raised.add((entry[:2], before[0], call))
                self.begun.add((answer, before[0]))
                return began + ((answer, before[0]),)
        kept = len([each for each in behind[1] if len(each) == 3])
        if kept < len(began) and len(before[1][-1]) == 3:
            answer, mode = began[-1]
            self.left.add((answer, mode, behind[0]))
        return began[:kept]

    def enter(self, situation):
        levels = [looked_up(self.program, situation, signal) for signal in self.program.signals]
        watch = tuple(() if level is None else situation[1][level] for level in levels)
        self.entered.add((situation[2][0], situation[0], watch))
