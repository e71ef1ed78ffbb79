"""Facts, and the steps of the paths that derive them."""

from answeredabove.base.moves import answer_to, modes_in
from answeredabove.base.words import is_below
from answeredabove.know.tables import are_among, is_table, place_of

MIDDLE = {"go": 3, "raise": 3, "call": 4, "unwind": 6}
LAST = {"leave": 2, "raise": 2, "call": 3, "answer": 5}
MOVES = {"go": "go", "raise": "raise", "call": "call", "unwind": "call", "leave": "leave", "answer": "call"}


def has_fact_form(program, value):
    """Whether the value is a fact by its form, true or not."""
    if not isinstance(value, tuple) or len(value) < 5 or value[1] not in program:
        return False
    if not is_below(value[2], program.modes) or not is_table(program, value[3]):
        return False
    if not is_below(value[-1], program.modes):
        return False
    if value[0] == "leaves":
        return len(value) == 5
    return value[0] == "escapes" and len(value) == 6 and value[4] in program.signals


def is_middle_step(program, fact, at, step):
    """Whether the value is a step of the fact's path, but its last one, from a pair of a point and a mode, as far as
    it does not hang on other facts."""
    move = _move_made(program, fact, at, step, False)
    if move is None or not is_below(step[-1], program.modes):
        return False
    if step[0] == "go":
        return (at[1], step[2]) in move[3]
    if step[0] == "raise":
        return step[2] in fact[3][place_of(program, move[3], at[1])]
    if not _is_inner(program, fact, move, step[2]):
        return False
    return step[0] == "call" or _is_unwind(program, move, step)


def is_last_step(program, fact, at, step):
    """Whether the value is the last step of the fact's path from a pair of a point and a mode, as far as it does not
    hang on other facts."""
    move = _move_made(program, fact, at, step, True)
    if move is None:
        return False
    if step[0] == "leave":
        return fact[0] == "leaves" and at[1] == fact[-1]
    if fact[0] == "leaves":
        return False
    if step[0] == "raise":
        return move[3] == fact[4] and at[1] == fact[5]
    if not _is_inner(program, fact, move, step[2]):
        return False
    if step[0] == "call":
        return answer_to(move, fact[4]) is None
    return answer_to(move, step[3]) is not None and is_below(step[4], program.modes)


def led_to(program, fact, step):
    """The pair of a point and a mode to which a step that is not the last one leads."""
    move = program[fact[1]].moves[step[1]]
    if step[0] == "unwind":
        return dict(answer_to(move, step[3])[2])[step[5]], step[5]
    return move[2], step[-1]


def main_facts(program, fact, mode, step):
    """The facts along whose paths a step goes, in order; shown tables are left aside."""
    if step[0] not in ("call", "unwind", "answer"):
        return []
    move = program[fact[1]].moves[step[1]]
    inside = (move[3], mode, step[2])
    if step[0] == "call":
        return [("leaves",) + inside + step[3:]] if len(step) == 4 else [("escapes",) + inside + fact[4:]]
    by = answer_to(move, step[3])[1]
    escaped = ("escapes",) + inside + step[3:5]
    if step[0] == "unwind":
        return [escaped, ("leaves", by, step[4], fact[3], step[5])]
    return [escaped, ("escapes", by, step[4], fact[3]) + fact[4:]]


def shown_facts(program, fact, step):
    """The facts by which the inner table of a step is shown."""
    if step[0] not in ("call", "unwind", "answer"):
        return []
    move = program[fact[1]].moves[step[1]]
    found = []
    for signal, by, _ in move[5]:
        for mode in range(program.modes):
            for end in step[2][place_of(program, signal, mode)]:
                found.append(("leaves", by, mode, fact[3], end))
    return found


def _move_made(program, fact, at, step, last):
    """The move that the value makes as a step, as a last one or as another one, or None if it is none by its form."""
    if not isinstance(step, tuple) or len(step) < 2 or not isinstance(step[0], str):
        return None
    moves = program[fact[1]].moves
    many = LAST.get(step[0], 0) if last else MIDDLE.get(step[0], 0)
    if many != len(step) or not is_below(step[1], len(moves)):
        return None
    move = moves[step[1]]
    if move[0] != MOVES[step[0]] or move[1] != at[0]:
        return None
    return move if move[0] == "go" or at[1] in modes_in(move) else None


def _is_unwind(program, move, step):
    answer = answer_to(move, step[3])
    return answer is not None and is_below(step[4], program.modes) and step[5] in _modes_unwound(answer)


def _is_inner(program, fact, move, value):
    """Whether the value is a table that can be shown: what is not answered within the fact's table, and only such
    modes of what is answered in which the answer resumes."""
    if not is_table(program, value):
        return False
    for signal in program.signals:
        answer = answer_to(move, signal)
        for mode in range(program.modes):
            at = place_of(program, signal, mode)
            if answer is None and not are_among(value[at], fact[3][at]):
                return False
            if answer is not None and any([end in _modes_unwound(answer) for end in value[at]]):
                return False
    return True


def _modes_unwound(answer):
    return [mode for mode, _ in answer[2]]
