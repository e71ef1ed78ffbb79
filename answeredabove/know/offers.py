"""Offers: what calls do with their answers, in many worlds at once."""

from answeredabove.know.ceilings import loose_tops

# With fewer tables it is not worth while to ask which part of them matters.
FEW_TABLES = 16


class Offer:
    """A call; its number and its first spot are told as in a plan.

    `there` has for each mode the states behind the call, packed for the world 0, and `passed` the escapes that are not
    answered. `kept` is the part of the table that stays in all worlds. `around` is the part on which the answers rest,
    and `matters` the part of the inner table on which what is called rests.
    """

    def __init__(self, call, there, passed):
        self.number = call.number
        self.base = call.base
        self.kept = call.kept
        self.there = there
        self.passed = passed
        self.around = 0
        self.matters = 0
        self.replies = []


class Reply:
    """An answer of a call, in the worlds of `within`; in the others the part `block` of the table stays.

    `by` is the first spot of the answer's procedure, and `spots` are all its spots, packed for the world 0; `first` is
    the first escape that is answered. `resumes` is the mask of the modes in which it resumes; `ways` has pairs of a
    mode in which it unwinds and the states to which this leads, packed for the world 0. `asks` are the modes in which
    the signal could escape from what is called.
    """

    def __init__(self, within, told, block):
        self.within = within
        self.by = told[0]
        self.first = told[1]
        self.block = block
        self.resumes = told[3]
        self.spots = 0
        self.ways = []
        self.asks = []


class Offers:
    """The offers of the calls of a plan, each made as soon as it is asked for. `within` has answers and the worlds in
    which they are not left out; all others are there in all worlds.

    `scopes` has for each spot the part of a table that matters there in any of the worlds.
    """

    def __init__(self, plan, pack, within):
        self._plan = plan
        self._pack = pack
        self._within = within
        self._offers = {}
        if plan.everything < FEW_TABLES:
            self._could = [plan.passing] * len(plan.first)
            self.scopes = [
                plan.everything if plan.has_calls(spot) else scope for spot, scope in enumerate(plan.scopes)
            ]
        else:
            self._could = loose_tops(plan)
            self.scopes = [plan.entries_of(escapes) for escapes in self._could]

    def offer_of(self, call):
        """The offer of a call."""
        if call.number not in self._offers:
            self._offers[call.number] = self._offer(call)
        return self._offers[call.number]

    def _offer(self, call):
        plan = self._plan
        pack = self._pack
        there = [pack.spaced(call.there[1 << mode]) for mode in range(plan.width)]
        offer = Offer(call, there, pack.every * pack.spaced(call.passed))
        could = 0
        for mode in call.made_in:
            could |= self._could[call.base + mode]
            offer.matters |= self.scopes[call.base + mode]
        for told in call.replies:
            reply = self._reply(call, told, could)
            offer.replies.append(reply)
            offer.passed |= (pack.every ^ reply.within) * pack.spaced(plan.full << reply.first)
            for mode in range(plan.width):
                offer.around |= self.scopes[reply.by + mode]
        return offer

    def _reply(self, call, told, could):
        """One of the replies of a call; `could` has the escapes that could come to it."""
        plan = self._plan
        by, first, shift, _, led = told
        answer = call.site + (plan.words[first // plan.width],)
        reply = Reply(self._within.get(answer, self._pack.every), told, plan.block << shift)
        reply.spots = self._pack.spaced(plan.full << by)
        reply.ways = [(bit.bit_length() - 1, self._pack.spaced(states)) for bit, states in led]
        reply.asks = [mode for mode in range(plan.width) if (could >> (first + mode)) & 1 == 1]
        return reply
