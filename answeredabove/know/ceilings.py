"""Ceilings: leaves and escapes of contexts that are surely not less than what is true."""

from answeredabove.know.plans import entries_mask
from answeredabove.know.walks import Walk


class Ceilings:
    """The ceilings of contexts, found for one table after another: what is called is taken to run under the full table.

    `scopes` tells for each procedure and mode the part of a table that matters there: that of the signals and modes
    which could escape. What is true under a table is true under this part of it alone.
    """

    def __init__(self, plan):
        self._plan = plan
        self._found = {}
        self._find(plan.everything)
        escapes = {(place, mode): masks[1] for (place, mode, _), masks in self._found.items()}
        self.scopes = {key: entries_mask(plan, mask) for key, mask in escapes.items()}

    def above(self, context):
        """The masks of the ceiling of a context."""
        if context not in self._found:
            self._find(context[2])
        return self._found[context]

    def _find(self, table):
        contexts = [(place, mode, table) for place in self._plan.upward for mode in range(self._plan.width)]
        needs = {}
        waiting = contexts
        while len(waiting) > 0:
            changed = {}
            for context in waiting:
                walk = Walk(self._plan, self._found, None, None, context)
                needs[context] = list(walk.needs)
                if self._found.get(context) != (walk.left, walk.escaped):
                    self._found[context] = (walk.left, walk.escaped)
                    changed[context] = True
            waiting = [context for context in contexts if any([need in changed for need in needs[context]])]
