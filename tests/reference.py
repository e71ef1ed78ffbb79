"""Facts and derivations, judged anew by the words of [7.1] and [7.2]."""


def is_number(value, many):
    return type(value) is int and 0 <= value < many


def is_table(program, value):
    if type(value) is not tuple or len(value) != len(program.signals) * program.modes:
        return False
    for row in value:
        if type(row) is not tuple or not all(is_number(mode, program.modes) for mode in row):
            return False
        if list(row) != sorted(set(row)):
            return False
    return True


def is_fact(program, value):
    if type(value) is not tuple or len(value) not in (5, 6) or type(value[0]) is not str:
        return False
    if type(value[1]) is not str or value[1] not in program.names or not is_number(value[2], program.modes):
        return False
    if not is_table(program, value[3]) or not is_number(value[-1], program.modes):
        return False
    if len(value) == 5:
        return value[0] == "leaves"
    return value[0] == "escapes" and type(value[4]) is str and value[4] in program.signals


def is_derivation(program, value):
    if type(value) is not tuple or value == ():
        return False
    for at, line in enumerate(value):
        if type(line) is not tuple or len(line) != 2 or not is_fact(program, line[0]):
            return False
        if not derives(program, line[0], line[1], [each[0] for each in value[:at]]):
            return False
    return True


def derives(program, fact, path, ahead):
    if type(path) is not tuple or path == ():
        return False
    point, mode = 0, fact[2]
    for step in path[:-1]:
        there = leads_to(program, fact, point, mode, step, ahead)
        if there is None:
            return False
        point, mode = there
    return ends(program, fact, point, mode, path[-1], ahead)


def move_of(program, fact, point, mode, step, kind):
    """The move with the index that the step tells, if it is of this kind and can be made there."""
    moves = program[fact[1]].moves
    if not is_number(step[1], len(moves)):
        return None
    move = moves[step[1]]
    if move[0] != kind or move[1] != point:
        return None
    if kind == "go":
        return move
    return move if mode in move[2 if kind == "leave" else 4] else None


def row(program, table, signal, mode):
    return table[program.signals.index(signal) * program.modes + mode]


def is_shown(program, fact, move, inner, ahead):
    if not is_table(program, inner):
        return False
    answers = {signal: (by, dict(unwinds)) for signal, by, unwinds in move[5]}
    for signal in program.signals:
        for mode in range(program.modes):
            for end in row(program, inner, signal, mode):
                if signal not in answers:
                    if end not in row(program, fact[3], signal, mode):
                        return False
                else:
                    by, unwinds = answers[signal]
                    if end in unwinds or ("leaves", by, mode, fact[3], end) not in ahead:
                        return False
    return True


def leads_to(program, fact, point, mode, step, ahead):
    if type(step) is not tuple or len(step) < 3 or type(step[0]) is not str:
        return None
    if not is_number(step[-1], program.modes):
        return None
    new = step[-1]
    if step[0] == "go" and len(step) == 3:
        move = move_of(program, fact, point, mode, step, "go")
        return (move[2], new) if move is not None and (mode, new) in move[3] else None
    if step[0] == "raise" and len(step) == 3:
        move = move_of(program, fact, point, mode, step, "raise")
        return (move[2], new) if move is not None and new in row(program, fact[3], move[3], mode) else None
    if step[0] == "call" and len(step) == 4:
        move = move_of(program, fact, point, mode, step, "call")
        if move is None or not is_shown(program, fact, move, step[2], ahead):
            return None
        return (move[2], new) if ("leaves", move[3], mode, step[2], new) in ahead else None
    if step[0] == "unwind" and len(step) == 6:
        move = move_of(program, fact, point, mode, step, "call")
        if move is None or not is_shown(program, fact, move, step[2], ahead):
            return None
        if type(step[3]) is not str or not is_number(step[4], program.modes):
            return None
        for signal, by, unwinds in move[5]:
            if signal == step[3] and new in dict(unwinds):
                needed = ("escapes", move[3], mode, step[2], signal, step[4]), ("leaves", by, step[4], fact[3], new)
                if needed[0] in ahead and needed[1] in ahead:
                    return dict(unwinds)[new], new
    return None


def ends(program, fact, point, mode, step, ahead):
    if type(step) is not tuple or len(step) < 2 or type(step[0]) is not str:
        return False
    if fact[0] == "leaves":
        return (step[0] == "leave" and len(step) == 2 and mode == fact[4]
                and move_of(program, fact, point, mode, step, "leave") is not None)
    signal, end = fact[4:]
    if step[0] == "raise" and len(step) == 2:
        move = move_of(program, fact, point, mode, step, "raise")
        return move is not None and move[3] == signal and mode == end
    if (step[0], len(step)) not in (("call", 3), ("answer", 5)):
        return False
    move = move_of(program, fact, point, mode, step, "call")
    if move is None or not is_shown(program, fact, move, step[2], ahead):
        return False
    answers = {each: by for each, by, _ in move[5]}
    if step[0] == "call":
        return signal not in answers and ("escapes", move[3], mode, step[2], signal, end) in ahead
    if type(step[3]) is not str or step[3] not in answers or not is_number(step[4], program.modes):
        return False
    first = ("escapes", move[3], mode, step[2], step[3], step[4])
    return first in ahead and ("escapes", answers[step[3]], step[4], fact[3], signal, end) in ahead
