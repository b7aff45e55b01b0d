"""All rests that can be left while people pay, and the pairs that lead from one to another."""


class Goings:
    """All rests that ways from a tally on pass. Rests are tuples of units here, the owers' ahead of the takers'.

    `steps` has for all of them the ascending list of the pairs that can pay, each with the rests behind it. `upward`
    has all of them, each behind those that can follow on it: first those with which all are quits, last the `start`.
    """

    def __init__(self, tally):
        self.owers = len(tally.owing)
        self.start = tuple(tally.owing + tally.awaiting)
        self.steps = {}
        front = [self.start]
        while front:
            fresh = []
            for rests in front:
                if rests not in self.steps:
                    self.steps[rests] = self._steps_from(rests)
                    fresh.extend([behind for _, behind in self.steps[rests]])
            front = fresh
        # With each payment the rests are less in all.
        sums = [(sum(rests), rests) for rests in self.steps]
        self.upward = [known for _, known in sorted(sums)]

    def _steps_from(self, rests):
        """The ascending list of the pairs that can pay, each with the rests behind it."""
        steps = []
        for ower in range(self.owers):
            for taker in range(len(rests) - self.owers):
                units = min(rests[ower], rests[self.owers + taker])
                if units > 0:
                    behind = list(rests)
                    behind[ower] -= units
                    behind[self.owers + taker] -= units
                    steps.append(((ower, taker), tuple(behind)))
        return steps
