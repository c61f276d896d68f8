"""Numbers on ways, so that each end has as many coming in as going out."""


class Flow:
    """Numbers on ways (one, other, least, greatest), at first the least ones.

    extra tells of each end how many more come in than go out; settle makes
    it 0 everywhere, if the ways let it.
    """

    def __init__(self, ways):
        self.ways = []
        self.passing = []
        self.extra = {}
        self.touching = {}
        # Outside is an end even of a book without rows, which has no ways.
        self.add_end(None)
        for way in ways:
            self.add_way(way)

    def add_end(self, end):
        """Let there be an end, if there is none such."""
        self.extra.setdefault(end, 0)
        self.touching.setdefault(end, [])

    def add_way(self, way):
        """Let there be a way, and the least number pass on it."""
        one, other, least, _ = way
        self.add_end(one)
        self.add_end(other)
        self.touching[one].append(len(self.ways))
        self.touching[other].append(len(self.ways))
        self.ways.append(way)
        self.passing.append(least)
        self.extra[one] -= least
        self.extra[other] += least

    def lead_away(self, k, end):
        """Let way k lead to another end that there is, with room for one more than before."""
        one, other, least, greatest = self.ways[k]
        self.touching[other].remove(k)
        self.touching[end].append(k)
        self.ways[k] = (one, end, least, greatest + 1)
        self.extra[other] -= self.passing[k]
        self.extra[end] += self.passing[k]

    def room(self, k, end):
        """How many more can leave an end by way k: forward, or by not coming to it."""
        one, _, least, greatest = self.ways[k]
        if end == one:
            return greatest - self.passing[k]
        return self.passing[k] - least

    def far_end(self, k, end):
        """The other end of way k."""
        one, other, _, _ = self.ways[k]
        return other if end == one else one

    def layer_before(self, layer, steps):
        """The ends from which more get into a layer by one way, noted in steps, where they were not yet."""
        before = []
        for end in layer:
            for k in self.touching[end]:
                far = self.far_end(k, end)
                if far not in steps and self.room(k, far) > 0:
                    steps[far] = (k, end)
                    before.append(far)
        return before

    def leading_to(self, goal):
        """A dict of the ends from which more can get to goal, nearer ones first, each with the pair (way, next end)."""
        steps = {goal: None}
        layer = [goal]
        while len(layer) > 0:
            layer = self.layer_before(layer, steps)
        return steps

    def push(self, start, goal, steps, most):
        """Pass as many more as possible, up to most, from start to goal along the steps; tell how many."""
        trail = []
        end = start
        while end != goal:
            k, following = steps[end]
            trail.append((k, end))
            end = following
        rooms = [self.room(k, at) for k, at in trail]
        many = min([most, *rooms])
        for k, at in trail:
            if at == self.ways[k][0]:
                self.passing[k] += many
            else:
                self.passing[k] -= many
        self.extra[start] -= many
        self.extra[goal] += many
        return many

    def settle(self):
        """None behind which all is even; or a dict of ends to which no more can get, though they lack some."""
        lacking = [end for end in self.extra if self.extra[end] < 0]
        for goal in lacking:
            while self.extra[goal] < 0:
                steps = self.leading_to(goal)
                starts = [end for end in steps if self.extra[end] > 0]
                if len(starts) == 0:
                    return steps
                self.push(starts[0], goal, steps, min(self.extra[starts[0]], -self.extra[goal]))
        return None

    def pass_more(self, start, goal, most):
        """Pass up to so many more from start to goal.

        Returns the pair of how many could not, and of the ends from which still more can get to goal.
        """
        steps = self.leading_to(goal)
        while most > 0 and start in steps:
            most -= self.push(start, goal, steps, most)
            steps = self.leading_to(goal)
        return most, steps
