"""Ceilings: leaves and escapes of contexts that are surely not less than what is true.

Under a ceiling what is called runs under the full table; so what a call does there is always the same, but for what
answers in it, which runs under the table of the context.
"""

from answeredabove.know.walks import LOOSE, NOTHING, WHOLE, walked


def tops_of(plan, places):
    """The ceilings of the spots of procedures under the full table, by pairs (spot, mask), with those that the plan
    has, on which they rest beside one another."""
    return _tops(plan, plan.tops, places, WHOLE)


def loose_tops(plan):
    """For each spot the escapes of its ceiling under the full table, whatever answers are left out."""
    places = [place for place, sheet in enumerate(plan.sheets) if sheet is not None]
    tops = _tops(plan, {}, places, LOOSE)
    return [tops.get((spot, plan.everything), NOTHING)[1] for spot in range(len(plan.first))]


def _tops(plan, tops, places, way):
    for rank in sorted(set([plan.ranks[place] for place in places])):
        beside = [place * plan.width for place in places if plan.ranks[place] == rank]
        tops = _tops_beside(plan, tops, [first + mode for first in beside for mode in range(plan.width)], way)
    return tops


def _tops_beside(plan, tops, spots, way):
    found = {key: tops[key] for key in tops}
    callers = [spot for spot in spots if plan.has_calls(spot)]
    waiting = spots
    while len(waiting) > 0:
        changed = False
        for spot in waiting:
            left, escaped, _ = walked(plan, found, way, spot, plan.everything)
            changed = changed or found.get((spot, plan.everything), NOTHING) != (left, escaped)
            found[(spot, plan.everything)] = (left, escaped)
        # What calls nothing rests on nothing.
        waiting = callers if changed else []
    return found


class Ceilings:
    """The ceilings of contexts, found as they are asked for."""

    def __init__(self, plan):
        self._plan = plan
        self._acts = [None for _ in plan.sheets]
        self._found = {}
        self._done = {}

    def above(self, spot, mask):
        """The masks of the ceiling of a context."""
        if (spot, mask) not in self._done:
            self._find(spot, mask)
        return self._found[(spot, mask)]

    def _find(self, first, mask):
        """Finds the ceiling of a spot under a table, and of all that answers there."""
        users = {first: {}}
        waiting = [first]
        while len(waiting) > 0:
            again = {}
            for spot in waiting:
                masks, asked = self._walked(spot, mask)
                for need in asked:
                    if need not in users:
                        users[need] = {}
                        again[need] = True
                    users[need][spot] = True
                if self._found.get((spot, mask), NOTHING) != masks:
                    for user in users[spot]:
                        again[user] = True
                self._found[(spot, mask)] = masks
            waiting = list(again)
        for spot in users:
            self._done[(spot, mask)] = True

    def _walked(self, spot, mask):
        """The masks that follow for a spot from what is found, and the spots that are not done on which they rest."""
        sheet, come = self._plan.first[spot]
        acts = self._acts_of(spot // self._plan.width)
        escaped = 0
        asked = {}
        todo = come & sheet.active
        while todo > 0:
            bit = todo & -todo
            raised, more, escapes, answering = acts[bit]
            escaped |= escapes
            for escape, shift, there in raised:
                escaped |= escape
                more |= there[(mask >> shift) & self._plan.full]
            for other, led in answering:
                if (other, mask) not in self._done:
                    asked[other] = True
                left, others = self._found.get((other, mask), NOTHING)
                escaped |= others
                for mode, states in led:
                    if left & mode > 0:
                        more |= states
            more &= ~come
            come |= more
            todo = (todo ^ bit) | (more & sheet.active)
        return (sheet.left_from(come), escaped), list(asked)

    def _acts_of(self, place):
        """What can be done in the active states of a procedure: what can be raised, as a sheet has it; the states to
        which calls lead, and what escapes from them; and the spots of what answers in them, with the states to which
        these unwind."""
        if self._acts[place] is None:
            acts = self._plan.sheets[place].acts
            self._acts[place] = {bit: self._act(acts[bit]) for bit in acts}
        return self._acts[place]

    def _act(self, act):
        raised, calls = act
        come = 0
        escapes = 0
        answering = []
        for call, mode in calls:
            left, escaped = self._plan.tops[(call.base + mode, self._plan.everything)]
            come |= call.there[left]
            escapes |= escaped & call.passed
            for spot, bit, _, _, led in call.asks:
                if escaped & bit > 0 and (spot, led) not in answering:
                    answering.append((spot, led))
        return raised, come, escapes, answering
