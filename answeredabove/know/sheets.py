"""Sheets: what the moves of a procedure do, told by masks, made once for many questions.

A *state* of a procedure is a pair of a point and a mode; its bit is the point times the number of modes, plus the mode.
A *spot* is a pair of a procedure and a mode: the place of the procedure times the number of modes, plus the mode.
"""

from answeredabove.base.moves import signals_answered
from answeredabove.know.masks import bits_of, mask_of


class Sheet:
    """What a procedure does.

    `spread` has for each point and each mask of modes the states that are come to from there by goes alone. `active`
    are the states in which something can be raised or called; for the bit of each of them `acts` has what can be
    raised, as triples (bit of the escape, shift of the table's entry, spread of the point behind the raise), and what
    can be called, as pairs (call, mode). `calls_made` has all calls by the indexes of their moves, and `needs` the bits
    of the places of the procedures that are called or answer.
    """

    def __init__(self, plan, place):
        procedure = plan.bodies[place]
        width = plan.width
        self.spread = _spread(procedure, width)
        self.calls_made = {}
        self.needs = 0
        self.active = 0
        self.acts = {}
        self._leaves = []
        for index, move in enumerate(procedure.moves):
            if move[0] == "leave":
                self._leaves.append((move[1] * width, mask_of(move[2])))
            elif move[0] == "raise":
                first = plan.words.index(move[3]) * width
                for mode in move[4]:
                    at = first + mode
                    self._acts_at(move[1] * width + mode)[0].append((1 << at, at * width, self.spread[move[2]]))
            elif move[0] == "call":
                call = Call(plan, place, index, self.spread)
                self.calls_made[index] = call
                self.needs |= call.needs
                for mode in move[4]:
                    self._acts_at(move[1] * width + mode)[1].append((call, mode))

    def left_from(self, come):
        """The mask of the modes that are left, where these states are come to."""
        left = 0
        for shift, modes in self._leaves:
            left |= (come >> shift) & modes
        return left

    def left_in(self, come, pack):
        """The same in many worlds at once: all is packed."""
        left = 0
        for shift, modes in self._leaves:
            for mode in bits_of(modes):
                left |= pack.at(come, shift + mode) << (mode * pack.many)
        return left

    def _acts_at(self, state):
        bit = 1 << state
        if bit not in self.acts:
            self.active |= bit
            self.acts[bit] = ([], [])
        return self.acts[bit]


class Call:
    """A call: its site, and a number of its own.

    It can be made in the modes `made_in`; `base` is the first spot of what is called, and `there` the spread of the
    point behind the call. `passed` is the mask of the escapes that are not answered, `kept` that of the part of the
    table that stays. Each of `replies` is a tuple (first spot of the answer's procedure, first escape, shift of its
    entry, mask of the modes in which it resumes, pairs of the bit of a mode in which it unwinds and the states to which
    this leads); `spots` has the bits of all spots of these procedures. `needs` has the bits of their places, and of the
    place of what is called.

    As soon as the scopes of these are known, `asks` has what is asked of them: the spot, the bit of the escape that is
    answered, the shift of its entry, and the rest as in `replies`; `around` is the part of the table on which the
    inner table rests there.
    """

    def __init__(self, plan, place, index, spread):
        move = plan.bodies[place].moves[index]
        width = plan.width
        answered = signals_answered(move)
        self.site = (plan.order[place], index)
        self.number = place * MOST_INDEXES + index
        self.made_in = move[4]
        self.base = plan.places[move[3]] * width
        self.there = spread[move[2]]
        self.passed = 0
        self.kept = 0
        self.asks = []
        self.around = 0
        for at, signal in enumerate(plan.words):
            if signal not in answered:
                self.passed |= plan.full << (at * width)
                self.kept |= plan.block << (at * width * width)
        self.replies = [_reply(plan, answer, spread) for answer in move[5]]
        self.spots = 0
        self.needs = 1 << plan.places[move[3]]
        for reply in self.replies:
            self.spots |= plan.full << reply[0]
            self.needs |= 1 << (reply[0] // width)

    def answering(self, at, width):
        """The spot of the procedure that answers the escape with this bit, or None if it is not answered."""
        for by, first, _, _, _ in self.replies:
            if first <= at < first + width:
                return by + at - first
        return None


# More than the moves that a procedure can have.
MOST_INDEXES = 16


def _reply(plan, answer, spread):
    signal, name, unwinds = answer
    first = plan.words.index(signal) * plan.width
    resumes = plan.full
    led = []
    for mode, point in unwinds:
        resumes ^= 1 << mode
        led.append((1 << mode, spread[point][1 << mode]))
    return plan.places[name] * plan.width, first, first * plan.width, resumes, led


def _spread(procedure, width):
    """For each point and each mask of modes, which are states of the point, all states that are come to by goes."""
    led = {}
    for move in procedure.moves:
        if move[0] == "go":
            for old, new in move[3]:
                state = move[1] * width + old
                led[state] = led.get(state, 1 << state) | 1 << (move[2] * width + new)
    # What a state comes to by way of each other one is added for one after another.
    states = list(led)
    for middle in states:
        for state in states:
            if (led[state] >> middle) & 1 == 1:
                led[state] |= led[middle]
    sources = {state // width: True for state in states}
    return [
        _spread_of(led, point * width, width) if point in sources
        else [modes << (point * width) for modes in range(1 << width)]
        for point in range(procedure.points)
    ]


def _spread_of(led, first, width):
    found = [0]
    for state in range(first, first + width):
        more = led.get(state, 1 << state)
        found = found + [more | each for each in found]
    return found
