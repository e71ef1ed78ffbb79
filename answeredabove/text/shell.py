"""A shell: programs by names, each with one of its runs, and commands over them."""

from answeredabove.ask.ends import outcome
from answeredabove.ask.nests import deepest
from answeredabove.ask.watch import Answers, answerers
from answeredabove.errors import InvalidCommand, InvalidOperation, TooMany, UnknownName
from answeredabove.run.runs import Run
from answeredabove.same.editions import new_ends
from answeredabove.text.commands import DEEDS, command_told
from answeredabove.text.texts import read_program, write_program

MAX_PROGRAMS = 8


class Shell:
    """Programs by their names, each with one of its own runs."""

    def __init__(self):
        self._programs = {}
        self._runs = {}
        self._script = ()

    @classmethod
    def replayed(cls, script):
        """The shell behind the commands of a script."""
        if not isinstance(script, tuple):
            raise InvalidCommand("a script is a tuple")
        shell = cls()
        for command in script:
            shell.run(command)
        return shell

    @property
    def names(self):
        """The names of the programs, ascending."""
        return tuple(sorted(self._programs))

    @property
    def programs(self):
        """The programs by their names."""
        return {name: self._programs[name] for name in sorted(self._programs)}

    @property
    def script(self):
        """The commands that have changed something, in order."""
        return self._script

    def run(self, command):
        """Carries a command out; the reply."""
        first, words, text = command_told(command)
        self._check_names(first, words)
        reply = self._change(first, words, text) if first in DEEDS else self._tell(first, words)
        if first in DEEDS:
            self._script = self._script + (command,)
        return reply

    def __call__(self, command):
        return self.run(command)

    def __contains__(self, x):
        return isinstance(x, str) and x in self._programs

    def __len__(self):
        return len(self._programs)

    def __eq__(self, other):
        return isinstance(other, Shell) and self._programs == other._programs and self._runs == other._runs

    def __str__(self):
        return f"shell of {len(self._programs)} programs"

    def _check_names(self, first, words):
        """Refuses names of programs that have to be there and are not, or that are there and have to be made."""
        needed = [] if first == "new" else words[:2] if first == "new-ends" else words[:1]
        for name in needed:
            if name not in self:
                raise UnknownName(name)
        if first in ("new", "copy") and words[-1] in self:
            raise InvalidOperation("a program of this name is there")

    def _change(self, first, words, text):
        name = words[0]
        if first == "new":
            return self._make(name, read_program(text))
        if first == "copy":
            return self._copy(name, words[1])
        if first == "drop":
            del self._programs[name]
            del self._runs[name]
            return None
        if first == "cut":
            return self._cut(name, (words[1], words[2], words[3]))
        run = self._runs[name]
        self._runs[name] = run + words[1] if first == "go" else run.back(many=words[1])
        return len(self._runs[name])

    def _make(self, name, program):
        self._check_room()
        self._set(name, program)
        return str(program)

    def _copy(self, name, other):
        self._check_room()
        self._programs[other] = self._programs[name]
        self._runs[other] = self._runs[name]

    def _cut(self, name, answer):
        program = self._programs[name].without_answers((answer,))
        self._set(name, program)
        return len(program.answers)

    def _check_room(self):
        if len(self._programs) >= MAX_PROGRAMS:
            raise TooMany(MAX_PROGRAMS)

    def _set(self, name, program):
        """Keeps a program with one of its own runs, without steps, from its least start."""
        self._runs[name] = Run.own(program, program.starts[0], ())
        self._programs[name] = program

    def _tell(self, first, words):
        program = self._programs[words[0]]
        if first == "text":
            return write_program(program)
        if first == "where":
            return self._runs[words[0]].situation
        if first == "ends":
            return outcome(program)
        if first == "depth":
            return deepest(program)
        if first == "idle":
            return Answers(program).idle
        if first == "who":
            return answerers(program, (words[1], words[2]))
        return new_ends(program, self._programs[words[1]])
