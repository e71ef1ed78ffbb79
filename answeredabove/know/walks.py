"""Walks: what a procedure does in one context, where what is told of other contexts is taken as given."""

NOTHING = (0, 0)


class Walk:
    """The least sets that follow for one context: the states that are come to, the modes that are left, the escapes.

    `told` has the masks of the leaves and of the escapes of other contexts by pairs (spot, mask of the table). A call
    is followed only where it has those on which the inner table rests.
    `made` has the calls that are followed, as triples (call, mode, mask of the inner table), and `lacks` is true if one
    is not.
    """

    def __init__(self, plan, told, spot, table):
        self._plan = plan
        self._told = told
        self._table = table
        self._inners = {}
        self._sheet, self.come = plan.first[spot]
        self.lacks = False
        self.made = []
        self.escaped = 0
        self._go_on()
        self.left = self._sheet.left_from(self.come)

    def _go_on(self):
        active = self._sheet.active
        done = 0
        waiting = self.come & active
        while waiting > 0:
            bit = waiting & -waiting
            done |= bit
            raised, calls = self._sheet.acts[bit]
            for escape, shift, there in raised:
                self.escaped |= escape
                self.come |= there[(self._table >> shift) & self._plan.full]
            for call, mode in calls:
                self._take_call(call, mode)
            waiting = self.come & active & ~done

    def _take_call(self, call, mode):
        if call.number not in self._inners:
            self._inners[call.number] = self._inner(call)
        inner = self._inners[call.number]
        if inner is None:
            self.lacks = True
            return
        self.made.append((call, mode, inner))
        left, escaped = self._told.get((call.base + mode, inner), NOTHING)
        self.come |= call.there[left]
        self.escaped |= escaped & call.passed
        if escaped & ~call.passed > 0:
            for by, first, _, _, led in call.replies:
                for raised in range(self._plan.width):
                    if (escaped >> (first + raised)) & 1 == 1:
                        self._take_answer(by + raised, led)

    def _take_answer(self, spot, led):
        left, escaped = self._told.get((spot, self._table), NOTHING)
        self.escaped |= escaped
        for bit, states in led:
            if left & bit > 0:
                self.come |= states

    def _inner(self, call):
        """The mask of the inner table, or None if something on which it rests is not told."""
        inner = self._table & call.kept
        for by, _, shift, resumes, _ in call.replies:
            for mode in range(self._plan.width):
                pair = self._told.get((by + mode, self._table), None)
                if pair is None:
                    return None
                inner |= (pair[0] & resumes) << (shift + mode * self._plan.width)
        return inner
