"""Walks: what a procedure does in one context, where what is told of other contexts is taken as given."""

from answeredabove.know.plans import answering, inner_mask

NOTHING = (0, 0)


class Walk:
    """The least sets that follow for one context: the states that are come to, the modes that are left, the escapes.

    `told` has the masks of the leaves and of the escapes of other contexts. Inner tables rest on what `sure` has of
    the answers' procedures; a call is not followed where something is lacking there. If `sure` is None, every inner
    table is taken to be the full one. `scopes` is None, or tells for each procedure and mode which part of a table
    matters there; then calls are followed under this part of their inner tables.

    `needs` has the contexts that are met in one step, and `lacks` those that are lacking in `sure`, both as keys.
    `made` has the calls that are followed, as triples of the call, the mode, and the mask of the inner table.
    """

    def __init__(self, plan, told, sure, scopes, context):
        place, mode, table = context
        self._plan = plan
        self._told = told
        self._sure = sure
        self._scopes = scopes
        self._table = table
        self._inners = {}
        self.needs = {}
        self.lacks = {}
        self.made = []
        self.come = 1 << mode
        self.left = 0
        self.escaped = 0
        self._go_on(plan.rows[place])

    def _go_on(self, rows):
        waiting = self.come
        while waiting > 0:
            state = waiting.bit_length() - 1
            before = self.come
            self._take_row(rows[state], state)
            waiting = (waiting ^ (1 << state)) | (self.come & ~before)

    def _take_row(self, row, state):
        led, left, raised, calls = row
        self.come |= led
        self.left |= left
        for escape, shift, there in raised:
            self.escaped |= escape
            self.come |= ((self._table >> shift) & self._plan.full) << there
        for call in calls:
            self._take_call(call, state % self._plan.width)

    def _take_call(self, call, mode):
        number, place, there, passed, _, answers = call
        if number not in self._inners:
            self._inners[number] = self._inner(call)
        inner = self._inners[number]
        if inner is None:
            return
        if self._scopes is not None:
            inner &= self._scopes[(place, mode)]
        self.needs[(place, mode, inner)] = True
        self.made.append((call, mode, inner))
        left, escaped = self._told.get((place, mode, inner), NOTHING)
        self.come |= left << there
        self.escaped |= escaped & passed
        for by, first, _, _, unwinds in answers:
            for raised in range(self._plan.width):
                if (escaped >> (first + raised)) & 1 == 1:
                    self._take_answer((by, raised, self._table), unwinds)

    def _take_answer(self, context, unwinds):
        left, escaped = self._told.get(context, NOTHING)
        self.escaped |= escaped
        for mode, state in unwinds:
            if left & mode > 0:
                self.come |= state

    def _inner(self, call):
        """The mask of the inner table, or None if something on which it rests is lacking."""
        contexts = answering(self._plan, self._table, call)
        for context in contexts:
            self.needs[context] = True
        if self._sure is None:
            return self._plan.everything
        lacking = [context for context in contexts if context not in self._sure]
        for context in lacking:
            self.lacks[context] = True
        return inner_mask(self._plan, self._sure, self._table, call) if len(lacking) == 0 else None
