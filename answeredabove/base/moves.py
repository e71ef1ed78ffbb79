"""The forms of moves and of their answers, and moves that differ in a part."""

from answeredabove.base.words import is_ascending, is_below, is_mode_set, is_name, is_tuple

LENGTHS = {"go": 4, "call": 6, "raise": 5, "leave": 3}


def is_move(value, points, modes):
    """Whether the value is a move between so many points, in so many modes."""
    if not isinstance(value, tuple) or len(value) == 0 or not isinstance(value[0], str):
        return False
    if len(value) != LENGTHS.get(value[0], 0) or not is_below(value[1], points):
        return False
    if value[0] == "leave":
        return is_mode_set(value[2], modes)
    if not is_below(value[2], points):
        return False
    if value[0] == "go":
        return are_pairs(value[3], modes, modes) and len(value[3]) > 0
    if not is_name(value[3]) or not is_mode_set(value[4], modes):
        return False
    return value[0] == "raise" or are_answers(value[5], points, modes)


def are_pairs(value, firsts, seconds):
    """Whether the value is an ascending tuple of pairs, each of one of so many firsts and seconds."""
    if not isinstance(value, tuple):
        return False
    return all([is_pair(pair, firsts, seconds) for pair in value]) and is_ascending(value)


def is_pair(value, firsts, seconds):
    """Whether the value is a pair of one of so many firsts and one of so many seconds."""
    return is_tuple(value, 2) and is_below(value[0], firsts) and is_below(value[1], seconds)


def are_answers(value, points, modes):
    """Whether the value is a tuple of answers, for a call between so many points."""
    if not isinstance(value, tuple) or not all([is_answer_form(each, points, modes) for each in value]):
        return False
    return is_ascending([answer[0] for answer in value])


def is_answer_form(value, points, modes):
    """Whether the value is a triple of a signal, a procedure's name and unwinds."""
    if not is_tuple(value, 3) or not is_name(value[0]) or not is_name(value[1]):
        return False
    return are_unwinds(value[2], points, modes)


def are_unwinds(value, points, modes):
    """Whether the value is an ascending tuple of pairs of different modes and points."""
    return are_pairs(value, modes, points) and is_ascending([pair[0] for pair in value])


def names_in(move):
    """The names of the procedures of which the move speaks."""
    if move[0] != "call":
        return []
    return [move[3]] + [answer[1] for answer in move[5]]


def signals_in(move):
    """The signals of which the move speaks: the one that it raises, or those that it answers."""
    if move[0] == "raise":
        return [move[3]]
    return signals_answered(move)


def signals_answered(move):
    """The signals that are answered while the move is open: none unless it is a call."""
    if move[0] != "call":
        return []
    return [answer[0] for answer in move[5]]


def answer_to(move, signal):
    """The answer to the signal that is given while the move is open, or None."""
    if move[0] == "call":
        for answer in move[5]:
            if answer[0] == signal:
                return answer
    return None


def modes_in(move):
    """The modes in which a call, a raise or a leave can be made."""
    return move[2] if move[0] == "leave" else move[4]


def with_other_answers(call, answers):
    """The call with these answers in the place of its own."""
    return call[:5] + (answers,)


def without_signals(move, signals):
    """The move without its answers to these signals."""
    if move[0] != "call":
        return move
    return with_other_answers(move, tuple([answer for answer in move[5] if answer[0] not in signals]))


def renamed_move(move, names):
    """The move that speaks of procedures by their new names; names has old and new ones."""
    if move[0] != "call":
        return move
    kind, here, there, name, modes, answers = move
    renamed = [(signal, names.get(by, by), unwinds) for signal, by, unwinds in answers]
    return kind, here, there, names.get(name, name), modes, tuple(renamed)
