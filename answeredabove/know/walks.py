"""Walks: what a procedure does in one context, where what is told of other contexts is taken as given."""

NOTHING = (0, 0)

# The ways to go: what is called runs under its inner table; it runs under the full table; and besides, answers may be
# left out, so that what they answer escapes, too.
NEAR = 0
WHOLE = 1
LOOSE = 2


def walked(plan, told, way, spot, table):
    """The masks of the modes that are left and of the escapes that follow for a context, and the calls that are made,
    as triples (call, mode, mask of the inner table).

    `told` has the masks of the leaves and of the escapes of other contexts by pairs (spot, mask of the table). Where
    not all is told on which the inner table of a call rests, nothing follows near by, and this is None.
    """
    sheet, come = plan.first[spot]
    escaped = 0
    made = []
    todo = come & sheet.active
    while todo > 0:
        bit = todo & -todo
        raised, calls = sheet.acts[bit]
        more = 0
        for escape, shift, there in raised:
            escaped |= escape
            more |= there[(table >> shift) & plan.full]
        for call, mode in calls:
            inner = _inner(plan, told, call, table) if way == NEAR else plan.everything
            if inner is None:
                return None
            made.append((call, mode, inner))
            left, others = told.get((call.base + mode, inner), NOTHING)
            more |= call.there[left]
            escaped |= others & (plan.passing if way == LOOSE else call.passed)
            if others & ~call.passed > 0:
                states, others = _answered(plan, told, call, table, others)
                more |= states
                escaped |= others
        more &= ~come
        come |= more
        todo = (todo ^ bit) | (more & sheet.active)
    return sheet.left_from(come), escaped, made


def _answered(plan, told, call, table, escaped):
    """The states to which a call leads where its escapes are answered, and what escapes from what answers."""
    more = 0
    further = 0
    for by, first, _, _, led in call.replies:
        for mode in range(plan.width):
            if (escaped >> (first + mode)) & 1 == 1:
                left, others = told.get((by + mode, table), NOTHING)
                further |= others
                for bit, states in led:
                    if left & bit > 0:
                        more |= states
    return more, further


def _inner(plan, told, call, table):
    """The mask of the inner table of a call, or None if something on which it rests is not told."""
    inner = table & call.kept
    for by, _, shift, resumes, _ in call.replies:
        for spot in range(by, by + plan.width):
            if (spot, table) not in told:
                return None
            inner |= (told[(spot, table)][0] & resumes) << shift
            shift += plan.width
    return inner
