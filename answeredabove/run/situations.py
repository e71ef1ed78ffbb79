"""Situations: their form, the call that is looked up, and the options behind one step."""

from answeredabove.base.moves import answer_to, modes_in
from answeredabove.base.programs import is_call, is_site
from answeredabove.base.words import is_below, is_tuple
from answeredabove.know.tables import place_of


def move_at(program, entry):
    """The move at the site with which an entry of what is open begins."""
    return program[entry[0]].moves[entry[1]]


def call_answering(program, entries, signal):
    """The index of the call that is looked up for the signal from the last entry outward, or None."""
    at = len(entries) - 1
    while at >= 0:
        last = entries[at]
        if len(last) == 3:
            at = last[2] - 1
        elif answer_to(move_at(program, last), signal) is not None:
            return at
        else:
            at -= 1
    return None


def has_situation_form(program, value):
    """Whether the value is a situation by its form."""
    if not is_tuple(value, 3) or not is_below(value[0], program.modes) or not isinstance(value[1], tuple):
        return False
    _, entries, spot = value
    if spot is None or isinstance(spot, str):
        return entries == () and (spot is None or spot in program.signals)
    if not is_tuple(spot, 2) or spot[0] not in program or not is_below(spot[1], program[spot[0]].points):
        return False
    return _lead_to(program, entries, spot[0])


def is_over(situation):
    """Whether the situation has ended."""
    return not isinstance(situation[2], tuple)


def told_options(program, table, situation):
    """The options of a situation under a table, each as a pair of the index of its move and the situation."""
    if is_over(situation):
        return []
    name, point = situation[2]
    found = []
    for index, move in enumerate(program[name].moves):
        if move[1] == point:
            found.extend([(index, behind) for behind in _behind_move(program, table, situation, index)])
    return found


def _lead_to(program, entries, name):
    """Whether the values are entries of what is open, and inside of the last one the procedure of this name runs."""
    inside = None
    for at, value in enumerate(entries):
        if not _is_entry_form(program, value, at) or inside not in (None, value[0]):
            return False
        if len(value) == 3 and value[2] != call_answering(program, entries[:at], move_at(program, value)[3]):
            return False
        inside = _runs_inside(program, entries, value)
    return inside in (None, name)


def _is_entry_form(program, value, at):
    if is_tuple(value, 2):
        return is_call(program, value)
    if not is_tuple(value, 3) or not is_site(program, value[:2]):
        return False
    return move_at(program, value)[0] == "raise" and is_below(value[2], at)


def _runs_inside(program, entries, value):
    """The name of the procedure that runs inside of an open call, or an open raise among the entries."""
    move = move_at(program, value)
    if len(value) == 2:
        return move[3]
    return answer_to(move_at(program, entries[value[2]]), move[3])[1]


def _behind_move(program, table, situation, index):
    mode, entries, (name, _) = situation
    move = program[name].moves[index]
    if move[0] == "go":
        return [(new, entries, (name, move[2])) for old, new in move[3] if old == mode]
    if mode not in modes_in(move):
        return []
    if move[0] == "call":
        return [(mode, entries + ((name, index),), (move[3], 0))]
    if move[0] == "raise":
        return _behind_raise(program, table, situation, index)
    return [_behind_leave(program, mode, entries)]


def _behind_raise(program, table, situation, index):
    mode, entries, (name, _) = situation
    _, _, there, signal, _ = program[name].moves[index]
    level = call_answering(program, entries, signal)
    if level is None:
        resumed = table[place_of(program, signal, mode)]
        return [(mode, (), signal)] + [(new, entries, (name, there)) for new in resumed]
    by = answer_to(move_at(program, entries[level]), signal)[1]
    return [(mode, entries + ((name, index, level),), (by, 0))]


def _behind_leave(program, mode, entries):
    if entries == ():
        return mode, (), None
    last = entries[-1]
    move = move_at(program, last)
    if len(last) == 3:
        level = last[2]
        unwinds = dict(answer_to(move_at(program, entries[level]), move[3])[2])
        if mode in unwinds:
            return mode, entries[:level], (entries[level][0], unwinds[mode])
    return mode, entries[:-1], (last[0], move[2])
