"""Texts of programs: written and read line by line."""

from answeredabove.base.checks import check_program
from answeredabove.base.programs import Procedure, Program
from answeredabove.base.words import is_name
from answeredabove.errors import InvalidProgram, ParseError

FIRST = "modes"
PROCEDURE = "procedure"
MOVE = "move"


def write_program(program):
    """The text of a program."""
    check_program(program)
    lines = [_first_line(program)]
    for procedure in program.procedures:
        lines.append(f"procedure {procedure.called} {procedure.points}")
        lines.extend(["  " + " ".join(_words_of(move)) for move in procedure.moves])
    return "\n".join(lines)


def read_program(text):
    """The program of a text."""
    if not isinstance(text, str):
        raise InvalidProgram("the text of a program is a string")
    lines = []
    for index, line in enumerate(text.split("\n")):
        told = _line_told(line)
        if told is None or not _can_stand(told[0], index):
            raise ParseError(index)
        lines.append(told)
    return _program_told(lines)


def _first_line(program):
    words = ["modes", str(program.modes), "starts"] + _numbers(program.starts)
    return " ".join(words + ["signals"] + list(program.signals))


def _words_of(move):
    if move[0] == "go":
        return ["go"] + _numbers(move[1:3]) + ["by"] + _pairs(move[3])
    if move[0] == "leave":
        return ["leave", str(move[1]), "in"] + _numbers(move[2])
    words = [move[0]] + _numbers(move[1:3]) + [move[3], "in"] + _numbers(move[4])
    if move[0] == "call":
        for signal, name, unwinds in move[5]:
            words.extend(["on", signal, name] + _pairs(unwinds))
    return words


def _numbers(values):
    return [str(value) for value in values]


def _pairs(values):
    return [f"{one}{other}" for one, other in values]


def _can_stand(kind, index):
    # A line behind the first one can only be a procedure's, so from there on moves have one.
    if kind == FIRST:
        return index == 0
    return index >= (1 if kind == PROCEDURE else 2)


def _line_told(line):
    """What a line tells, with its kind ahead, or None if it has none of the forms."""
    if line.startswith("  "):
        move = _move_told(line[2:].split(" "))
        return None if move is None else (MOVE, move)
    words = line.split(" ")
    if words[0] == "procedure":
        return _procedure_told(words)
    return _first_told(words)


def _first_told(words):
    if len(words) < 5 or words[0] != "modes" or not _is_digits(words[1], 1) or words[2] != "starts":
        return None
    end = _end_of_digits(words, 3, 1)
    if end == 3 or words[end:end + 1] != ["signals"]:
        return None
    signals = words[end + 1:]
    if not all([is_name(signal) for signal in signals]):
        return None
    return FIRST, (int(words[1]), _integers(words[3:end]), tuple(signals))


def _procedure_told(words):
    if len(words) != 3 or not is_name(words[1]) or not _is_digits(words[2], 1):
        return None
    return PROCEDURE, (words[1], int(words[2]))


def _move_told(words):
    if words[0] == "go":
        return _go_told(words)
    if words[0] == "leave":
        return _leave_told(words)
    if words[0] == "call" or words[0] == "raise":
        return _call_or_raise_told(words)
    return None


def _go_told(words):
    if len(words) < 5 or not _are_points(words[1:3]) or words[3] != "by":
        return None
    if _end_of_digits(words, 4, 2) < len(words):
        return None
    return "go", int(words[1]), int(words[2]), _integer_pairs(words[4:])


def _leave_told(words):
    if len(words) < 4 or not _is_digits(words[1], 1) or words[2] != "in":
        return None
    if _end_of_digits(words, 3, 1) < len(words):
        return None
    return "leave", int(words[1]), _integers(words[3:])


def _call_or_raise_told(words):
    if len(words) < 6 or not _are_points(words[1:3]) or not is_name(words[3]) or words[4] != "in":
        return None
    end = _end_of_digits(words, 5, 1)
    if end == 5:
        return None
    move = (words[0], int(words[1]), int(words[2]), words[3], _integers(words[5:end]))
    if words[0] == "raise":
        return move if end == len(words) else None
    answers = _answers_told(words, end)
    return None if answers is None else move + (answers,)


def _answers_told(words, at):
    """The answers that the words from this index on tell, or None if they tell something else."""
    answers = []
    while at < len(words):
        if len(words) < at + 3 or words[at] != "on" or not is_name(words[at + 1]) or not is_name(words[at + 2]):
            return None
        end = _end_of_digits(words, at + 3, 2)
        answers.append((words[at + 1], words[at + 2], _integer_pairs(words[at + 3:end])))
        at = end
    return tuple(answers)


def _is_digits(word, many):
    return len(word) == many and all(["0" <= letter <= "9" for letter in word])


def _are_points(words):
    return all([_is_digits(word, 1) for word in words])


def _end_of_digits(words, at, many):
    """The index behind the words from this index on that have so many digits."""
    while at < len(words) and _is_digits(words[at], many):
        at += 1
    return at


def _integers(words):
    return tuple([int(word) for word in words])


def _integer_pairs(words):
    return tuple([(int(word[0]), int(word[1])) for word in words])


def _program_told(lines):
    modes, starts, signals = lines[0][1]
    heads = []
    moves = []
    for kind, told in lines[1:]:
        if kind == PROCEDURE:
            heads.append(told)
            moves.append([])
        else:
            moves[-1].append(told)
    procedures = [Procedure.of(called, points, tuple(own)) for (called, points), own in zip(heads, moves)]
    return Program.of(modes, starts, signals, tuple(procedures))
