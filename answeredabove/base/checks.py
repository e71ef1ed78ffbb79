"""The checks of arguments that many functions share; each one raises the error of its argument."""

from answeredabove.base.programs import Program
from answeredabove.base.words import is_below
from answeredabove.errors import InvalidMode, InvalidProgram, UnknownName


def check_program(program):
    """Refuses what is no program."""
    if not isinstance(program, Program):
        raise InvalidProgram("this is no program")


def check_name(program, name):
    """Refuses what is no name of a procedure of the program."""
    if name not in program:
        raise UnknownName(name)


def check_mode(program, mode):
    """Refuses what is no mode of the program."""
    if not is_below(mode, program.modes):
        raise InvalidMode("this is no mode of the program")


def check_signal(program, signal):
    """Refuses what is no signal of the program."""
    if signal not in program.signals:
        raise UnknownName(signal)
