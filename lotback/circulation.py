"""Numbers on ways, so that each end has as many coming in as going out."""


class Flow:
    """Numbers on ways (one, other, least, greatest), at first the least ones.

    extra tells of each end how many more come in than go out; settle makes
    it 0 everywhere, if the ways let it.
    """

    def __init__(self, ways):
        self.ways = ways
        self.passing = []
        self.extra = {}
        self.touching = {}
        for k, way in enumerate(ways):
            self.add_way(k, way)

    def add_way(self, k, way):
        """Let the least number pass on way k."""
        one, other, least, _ = way
        self.passing.append(least)
        for end in (one, other):
            self.extra.setdefault(end, 0)
            self.touching.setdefault(end, []).append(k)
        self.extra[one] -= least
        self.extra[other] += least

    def room(self, k, end):
        """How many more can leave an end by way k: forward, or by not coming to it."""
        one, _, least, greatest = self.ways[k]
        if end == one:
            return greatest - self.passing[k]
        return self.passing[k] - least

    def far_end(self, k, end):
        """The other end of way k."""
        one, other, _, _ = self.ways[k]
        return other if end == one else one

    def layer_before(self, layer, steps):
        """The ends from which more can get into a layer by one way, noted in steps, where they were not yet."""
        before = []
        for end in layer:
            for k in self.touching[end]:
                far = self.far_end(k, end)
                if far not in steps and self.room(k, far) > 0:
                    steps[far] = (k, end)
                    before.append(far)
        return before

    def leading_to(self, goal):
        """A dict of the ends from which more can get to goal, each with the pair (way, next end)."""
        steps = {goal: None}
        layer = [goal]
        while len(layer) > 0:
            layer = self.layer_before(layer, steps)
        return steps

    def push(self, start, goal, steps):
        """Pass as many as possible from an end with some extra to one that lacks some."""
        trail = []
        end = start
        while end != goal:
            k, following = steps[end]
            trail.append((k, end))
            end = following
        rooms = [self.room(k, at) for k, at in trail]
        many = min([self.extra[start], -self.extra[goal], *rooms])
        for k, at in trail:
            if at == self.ways[k][0]:
                self.passing[k] += many
            else:
                self.passing[k] -= many
        self.extra[start] -= many
        self.extra[goal] += many

    def settle(self):
        """None behind which all is even; or a dict of ends to which no more can get, though they lack some."""
        lacking = [end for end in self.extra if self.extra[end] < 0]
        for goal in lacking:
            while self.extra[goal] < 0:
                steps = self.leading_to(goal)
                starts = [end for end in steps if self.extra[end] > 0]
                if len(starts) == 0:
                    return steps
                self.push(starts[0], goal, steps)
        return None
