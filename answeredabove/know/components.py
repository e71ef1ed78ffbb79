"""Components: which things need one another, directly or by way of others."""


def components(needs):
    """The keys of a dict from things to lists of those that they need, in lists of such as need one another, each one
    behind those that it needs."""
    tour = Tour(needs)
    for root in needs:
        tour.visit(root)
    return tour.groups


class Tour:
    """The components found so far, by Tarjan's way with a stack of its own."""

    def __init__(self, needs):
        self._needs = needs
        self._ages = {}
        self._lows = {}
        self._held = []
        self._done = {}
        self.groups = []

    def visit(self, root):
        """Finds the components of all that a thing needs."""
        trail = [(root, 0)]
        while len(trail) > 0:
            here, at = trail.pop()
            if at == 0 and not self._begin(here):
                continue
            needs = self._needs[here]
            if at > 0:
                self._lows[here] = min(self._lows[here], self._low(needs[at - 1]))
            if at < len(needs):
                trail.append((here, at + 1))
                trail.append((needs[at], 0))
            elif self._lows[here] == self._ages[here]:
                self._cut(here)

    def _begin(self, here):
        if here in self._ages:
            return False
        self._ages[here] = len(self._ages)
        self._lows[here] = self._ages[here]
        self._held.append(here)
        return True

    def _low(self, need):
        # What is done already lies in a component of its own.
        return len(self._ages) if need in self._done else self._lows[need]

    def _cut(self, here):
        parts = []
        while len(parts) == 0 or parts[-1] != here:
            parts.append(self._held.pop())
            self._done[parts[-1]] = True
        self.groups.append(parts)
