"""Programs, tables and situations drawn by a seed, for tests that ask the same of many of them."""

import random

from answeredabove.base.programs import Procedure, Program

NAMES = ("main", "aa", "bb", "cc", "dd", "ee", "ff", "gg", "hh")
SIGNALS = ("ask", "need", "stop")


def programs(seed, many, procedures=4, modes=3, signals=2, points=4, moves=7):
    """So many programs, with up to so many procedures and so on."""
    draw = random.Random(seed)
    return [_program(draw, procedures, modes, signals, points, moves) for _ in range(many)]


def tables(seed, program, many):
    """So many tables of the program, the empty one first."""
    draw = random.Random(seed)
    rows = len(program.signals) * program.modes
    found = [((),) * rows]
    for _ in range(many - 1):
        share = draw.choice((0.2, 0.5, 0.8))
        found.append(tuple(tuple(_some(draw, program.modes, share)) for _ in range(rows)))
    return found


def contexts(program, seed=7, many=2):
    """The contexts of all procedures and modes, under some tables."""
    return [
        (name, mode, table)
        for table in tables(seed, program, many) for name in program.names for mode in range(program.modes)
    ]


def _some(draw, many, share):
    return [value for value in range(many) if draw.random() < share]


def _modes(draw, modes):
    return tuple(_some(draw, modes, 0.6) or [draw.randrange(modes)])


def _program(draw, procedures, modes, signals, points, moves):
    modes = draw.randint(1, modes)
    signals = SIGNALS[:draw.randint(0, signals)]
    names = NAMES[:draw.randint(1, procedures)]
    made = [_procedure(draw, name, names, modes, signals, points, moves) for name in names]
    return Program(modes, _modes(draw, modes), signals, *made)


def _procedure(draw, name, names, modes, signals, points, moves):
    points = draw.randint(1, points)
    kinds = ["go", "call", "call", "leave", "leave"] + ["raise", "raise"] * (len(signals) > 0)
    made = [_move(draw, draw.choice(kinds), names, modes, signals, points) for _ in range(draw.randint(1, moves))]
    return Procedure(name, points, *made)


def _move(draw, kind, names, modes, signals, points):
    here, there = draw.randrange(points), draw.randrange(points)
    if kind == "go":
        pairs = {(draw.randrange(modes), draw.randrange(modes)) for _ in range(draw.randint(1, 4))}
        return ("go", here, there, tuple(sorted(pairs)))
    if kind == "leave":
        return ("leave", here, _modes(draw, modes))
    if kind == "raise":
        return ("raise", here, there, draw.choice(signals), _modes(draw, modes))
    answers = []
    for signal in signals:
        if draw.random() < 0.6:
            unwinds = tuple((mode, draw.randrange(points)) for mode in _some(draw, modes, 0.3))
            answers.append((signal, draw.choice(names), unwinds))
    return ("call", here, there, draw.choice(names), _modes(draw, modes), tuple(answers))


def lively(seed, many, procedures=4, modes=2, signals=2):
    """So many programs in which most calls answer, most signals are raised, and answers begin inside of answers."""
    draw = random.Random(seed)
    found = []
    for _ in range(many):
        own = draw.randint(1, modes)
        told = SIGNALS[:draw.randint(1, signals)]
        names = NAMES[:draw.randint(2, procedures)]
        made = [_lively(draw, name, names, own, told) for name in names]
        found.append(Program(own, _modes(draw, own), told, *made))
    return found


def _lively(draw, name, names, modes, signals):
    points = draw.randint(2, 3)
    kinds = ["go", "call", "call", "call", "raise", "raise"]
    moves = []
    for _ in range(draw.randint(2, 5)):
        move = _move(draw, draw.choice(kinds), names, modes, signals, points)
        moves.append((move[0], min(move[1], draw.randrange(points))) + move[2:])
    return Procedure(name, points, *moves, ("leave", draw.randrange(points), _modes(draw, modes)))


LAYERS = (("main",), ("aa", "bb"), ("cc", "dd"), ("ee", "ff", "gg"), ("hh",))


def layered(seed, many, modes=3, signals=2):
    """So many programs in which most raises are answered, by procedures that call others: main calls, those that it
    calls call those that raise, and what answers goes from mode to mode, or calls something that does."""
    draw = random.Random(seed)
    found = []
    for _ in range(many):
        own = draw.randint(1, modes)
        told = SIGNALS[:draw.randint(1, signals)]
        made = [_layer(draw, name, at, own, told) for at, layer in enumerate(LAYERS) for name in layer]
        found.append(Program(own, _modes(draw, own), told, *made))
    return found


def _layer(draw, name, layer, modes, signals):
    points = draw.randint(2, 3)
    full = tuple(range(modes))
    moves = []
    for here in range(points - 1):
        for _ in range(draw.choice((1, 1, 2, 3)) if layer < 2 else draw.choice((1, 1, 2))):
            there = here + 1 if draw.random() < 0.9 else draw.randrange(points)
            kind = draw.choice(("call call call raise", "call call raise", "raise raise go", "go call call raise",
                                "go go raise")[layer].split())
            if kind == "go":
                pairs = {(mode, draw.randrange(modes)) for mode in full}
                moves.append(("go", here, there, tuple(sorted(pairs))))
            elif kind == "raise":
                moves.append(("raise", here, there, draw.choice(signals), full if draw.random() < 0.8 else full[-1:]))
            else:
                goal = draw.choice(LAYERS[draw.choice((layer + 1, layer + 1, 2)) if layer < 3 else draw.choice((2, 4))])
                goal = goal if draw.random() < 0.9 else draw.choice(NAMES)
                moves.append(("call", here, there, goal, full, _answers(draw, signals, modes, points)))
    return Procedure(name, points, *moves, ("leave", points - 1, full if draw.random() < 0.7 else _modes(draw, modes)))


def _answers(draw, signals, modes, points):
    found = []
    for signal in signals:
        if draw.random() < 0.75:
            unwinds = tuple((mode, draw.randrange(points)) for mode in _some(draw, modes, 0.15))
            found.append((signal, draw.choice(LAYERS[3]), unwinds))
    return tuple(found)
