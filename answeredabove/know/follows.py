"""Following: the choices of the run that goes along given paths."""

from answeredabove.base.moves import answer_to
from answeredabove.errors import TooMany
from answeredabove.know.steps import main_facts
from answeredabove.run.runs import MOST_STEPS
from answeredabove.run.situations import call_answering, move_at, told_options


class Lines:
    """The lines of a derivation; where several have one fact, the first one counts."""

    def __init__(self, derivation):
        self._paths = {}
        for fact, path in derivation:
            self._paths.setdefault(fact, path)

    def path_of(self, fact):
        """The path of the line with this fact."""
        return self._paths[fact]


class Follower:
    """A run on its way along paths; `lines` tells the path of each fact on which they rest.

    What is to be done is a stack of (fact, path, index of a step). Each entry of what is open has its maker: the fact
    whose path has opened it. Under the table of a call's maker the call's answers run. Of a fact that is not followed
    to its end only the procedure and the table count; its path can have steps ("enter", j) at its end: the move with
    this index is made, and nothing is told of what comes of it.
    """

    def __init__(self, program, table, situation, lines):
        self._program = program
        self._table = table
        self._lines = lines
        self._situation = situation
        self._ahead = []
        self._makers = []
        self._choices = []

    def taken(self, parts):
        """The choices up to the end of the last one of these parts, which are pairs of a fact and its path."""
        self._ahead = [(fact, path, 0) for fact, path in parts[::-1] if len(path) > 0]
        while len(self._ahead) > 0:
            if len(self._choices) == MOST_STEPS:
                raise TooMany(MOST_STEPS)
            fact, path, at = self._ahead.pop()
            if at + 1 < len(path):
                self._ahead.append((fact, path, at + 1))
            self._step(fact, path[at])
        return tuple(self._choices)

    def _step(self, fact, step):
        behind = told_options(self._program, self._table, self._situation)
        own = [at for at, (index, _) in enumerate(behind) if index == step[1]]
        choice = own[0]
        if step[0] == "go":
            choice = [at for at in own if behind[at][1][0] == step[2]][0]
        elif step[0] == "raise" and len(step) == 3:
            choice = self._resumed(fact, step, behind, own)
        else:
            # What is to be done first comes last upon the stack.
            for need in main_facts(self._program, fact, self._situation[0], step)[::-1]:
                self._ahead.append((need, self._lines.path_of(need), 0))
        self._take(fact, choice, behind[choice][1])

    def _resumed(self, fact, step, behind, own):
        """The choice for a raise that is resumed in the mode that the step tells."""
        mode, entries, _ = self._situation
        signal = self._program[fact[1]].moves[step[1]][3]
        level = call_answering(self._program, entries, signal)
        if level is None:
            # The first option is the one with which the signal escapes.
            return [at for at in own[1:] if behind[at][1][0] == step[2]][0]
        by = answer_to(move_at(self._program, entries[level]), signal)[1]
        need = ("leaves", by, mode, self._makers[level][3], step[2])
        self._ahead.append((need, self._lines.path_of(need), 0))
        return own[0]

    def _take(self, fact, choice, situation):
        self._choices.append(choice)
        self._situation = situation
        many = len(situation[1])
        if many > len(self._makers):
            self._makers.append(fact)
        else:
            del self._makers[many:]
