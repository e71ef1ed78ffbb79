"""Plans: what all procedures of a program do, told by masks, made once for all questions about the program."""

from answeredabove.base.programs import notes_of
from answeredabove.know.ceilings import tops_of
from answeredabove.know.masks import MODE_SETS, bits_of
from answeredabove.know.sheets import Sheet


MOST_KEPT = 5000


class Plan:
    """The plan of a program. What it tells of a procedure is made as soon as somebody asks for one of its spots.

    `words` are the signals of the program, and `bodies` its procedures; `sheets` tells what each one does, `first` has
    for each spot its sheet and the states to which it comes at once, and `calling` has the bits of the spots of
    procedures that have calls. `ranks` tells how many procedures each one can come to by calls and answers, in the end,
    itself too: so one has a lower rank than another one that needs it and that it does not need.

    `scopes` tells for each spot the part of a table that matters there: the entries of the signals and modes that could
    escape. What is true under a table is true under this part of it alone. `tops` has the ceilings of spots under the
    full table, by pairs (spot, mask).
    """

    def __init__(self, program):
        self.words = program.signals
        self.width = program.modes
        self.full = (1 << self.width) - 1
        self.block = (1 << (self.width * self.width)) - 1
        self.passing = (1 << (len(self.words) * self.width)) - 1
        self.everything = (1 << (len(self.words) * self.width * self.width)) - 1
        self.bodies = program.procedures
        self.order = program.names
        self.places = {name: place for place, name in enumerate(self.order)}
        self.sheets = [None for _ in self.order]
        self.ranks = [0 for _ in self.order]
        self.calling = 0
        self.first = [None] * (len(self.order) * self.width)
        self.scopes = [0] * (len(self.order) * self.width)
        self.tops = {}
        self._tables = {}
        self._escapes = {}
        self._entries = {}

    def spot_of(self, name, mode):
        """The spot of a procedure and a mode."""
        place = self.places[name]
        if self.sheets[place] is None:
            self._prepare(place)
        return place * self.width + mode

    def has_calls(self, spot):
        """Whether the procedure of a spot has calls."""
        return (self.calling >> spot) & 1 == 1

    def name_at(self, spot):
        """The name of the procedure of a spot."""
        return self.order[spot // self.width]

    def mode_at(self, spot):
        """The mode of a spot."""
        return spot - spot // self.width * self.width

    def unpacked(self, spot, mask):
        """A context as it is told outside."""
        return self.name_at(spot), self.mode_at(spot), self.table_of(mask)

    def place_of(self, signal, mode):
        """The index of a table's entry, and the bit of an escape, for a signal and a mode."""
        return self.words.index(signal) * self.width + mode

    def table_of(self, mask):
        """The table of a mask."""
        if mask not in self._tables:
            if len(self._tables) >= MOST_KEPT:
                self._tables = {}
            shifts = range(0, len(self.words) * self.width * self.width, self.width)
            self._tables[mask] = tuple([MODE_SETS[(mask >> shift) & self.full] for shift in shifts])
        return self._tables[mask]

    def escapes_of(self, mask):
        """The pairs of a signal and a mode of a mask, ascending."""
        if mask not in self._escapes:
            found = [(self.words[at // self.width], self.mode_at(at)) for at in bits_of(mask)]
            self._escapes[mask] = tuple(found)
        return self._escapes[mask]

    def entries_of(self, escapes):
        """The mask of the entries of a table that belong to the escapes of a mask, each entry with all modes."""
        if escapes not in self._entries:
            mask = 0
            for at in bits_of(escapes):
                mask |= self.full << (at * self.width)
            self._entries[escapes] = mask
        return self._entries[escapes]

    def _prepare(self, place):
        """Makes the sheets of a procedure and of all that it can come to, and what rests on them."""
        new = self._make_sheets(place)
        for each in new:
            self.ranks[each] = self._rank(each)
        self.tops = tops_of(self, new)
        for each in new:
            for spot in range(each * self.width, (each + 1) * self.width):
                self.scopes[spot] = self.entries_of(self.tops[(spot, self.everything)][1])
        for each in new:
            for call in self.sheets[each].calls_made.values():
                self._complete(call)

    def _make_sheets(self, place):
        """Makes the sheets of a procedure and of all that it can come to; the places of those that are new."""
        new = []
        waiting = [place]
        while len(waiting) > 0:
            each = waiting.pop()
            if self.sheets[each] is None:
                sheet = Sheet(self, each)
                self.sheets[each] = sheet
                new.append(each)
                waiting.extend(bits_of(sheet.needs))
                if len(sheet.calls_made) > 0:
                    self.calling |= self.full << (each * self.width)
                for mode in range(self.width):
                    self.first[each * self.width + mode] = (sheet, sheet.spread[0][1 << mode])
        return new

    def _rank(self, place):
        """How many procedures a procedure can come to by calls and answers, itself too."""
        found = 1 << place
        waiting = found
        many = 0
        while waiting > 0:
            bit = waiting & -waiting
            new = self.sheets[bit.bit_length() - 1].needs & ~found
            found |= new
            waiting = (waiting ^ bit) | new
            many += 1
        return many

    def _complete(self, call):
        """Adds to a call what rests on scopes; what cannot escape from it is not asked for."""
        could = 0
        for mode in call.made_in:
            could |= self.tops[(call.base + mode, self.everything)][1]
        for by, first, shift, resumes, led in call.replies:
            for mode in range(self.width):
                call.around |= self.scopes[by + mode]
                bit = 1 << (first + mode)
                if could & bit > 0:
                    call.asks.append((by + mode, bit, shift + mode * self.width, resumes, led))


def plan_of(program):
    """The plan of a program, which is made once."""
    notes = notes_of(program)
    if notes.plan is None:
        notes.plan = Plan(program)
    return notes.plan
