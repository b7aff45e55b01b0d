"""As much as can pass from owers to takers along ties."""


class Flow:
    """As many units as can pass from owers to takers, for each ower the list of the takers with ties being given.

    `owing` and `awaiting` are the rests behind it. `owers` and `takers` are those who can be reached from owers with
    rests, by ties from owers to takers, and from takers to owers who pay them: these owers owe more than these takers
    are due, and have ties to no others, if there is a rest at all.
    """

    def __init__(self, owing, awaiting, tied):
        self.owing = list(owing)
        self.awaiting = list(awaiting)
        self.tied = tied
        self.payers = [{} for _ in awaiting]
        self._pour()
        before_owers, before_takers = self._fill()
        self.owers = sorted(before_owers)
        self.takers = sorted(before_takers)

    def passed(self):
        """The dict from all pairs between whom units pass to how many they are."""
        flow = {}
        for taker, payers in enumerate(self.payers):
            for ower, units in payers.items():
                flow[(ower, taker)] = units
        return flow

    def is_full(self):
        """Whether the owers have no rests."""
        return not any(self.owing)

    def _pour(self):
        """Let all pay those to whom they have ties, one after the other."""
        for ower, takers in enumerate(self.tied):
            for taker in takers:
                units = min(self.owing[ower], self.awaiting[taker])
                if units > 0:
                    self._add(ower, taker, units)
                    self.owing[ower] -= units
                    self.awaiting[taker] -= units

    def _fill(self):
        """Let more reach takers with rests, as long as some of them can be reached, and give who is reached then."""
        while True:
            before_owers, before_takers = self._reached()
            goals = [taker for taker in before_takers if self.awaiting[taker] > 0]
            if not goals:
                return before_owers, before_takers
            for goal in goals:
                self._push(before_owers, before_takers, goal)

    def _add(self, ower, taker, units):
        """Let so many more units pass between two people, or fewer if it is below 0."""
        payers = self.payers[taker]
        payers[ower] = payers.get(ower, 0) + units
        if payers[ower] == 0:
            del payers[ower]

    def _reached(self):
        """Dicts of the owers and the takers who can be reached from owers with rests, with who stands before each."""
        before_owers = {ower: None for ower, rest in enumerate(self.owing) if rest > 0}
        before_takers = {}
        front = list(before_owers)
        while front:
            fresh = []
            for ower in front:
                for taker in self.tied[ower]:
                    if taker not in before_takers:
                        before_takers[taker] = ower
                        fresh.append(taker)
            front = []
            for taker in fresh:
                for ower in self.payers[taker]:
                    if ower not in before_owers:
                        before_owers[ower] = taker
                        front.append(ower)
        return before_owers, before_takers

    def _push(self, before_owers, before_takers, goal):
        """Let as much more reach a taker as can pass from an ower with a rest, along those who stand before them."""
        more = []
        less = []
        taker = goal
        while taker is not None:
            ower = before_takers[taker]
            more.append((ower, taker))
            taker = before_owers[ower]
            if taker is not None:
                less.append((ower, taker))
        start, _ = more[-1]
        # What was pushed to others meanwhile may have taken away what stood here.
        given_up = [self.payers[each].get(payer, 0) for payer, each in less]
        units = min([self.owing[start], self.awaiting[goal]] + given_up)
        if units > 0:
            self.owing[start] -= units
            self.awaiting[goal] -= units
            for ower, taker in more:
                self._add(ower, taker, units)
            for ower, taker in less:
                self._add(ower, taker, -units)
