"""Flows: whole numbers along stretches between nodes, each within a low and a high."""


class Flow:
    """What goes along each stretch; as much comes to each node as goes from it."""

    def __init__(self, many):
        self.tails = []
        self.heads = []
        self.lows = []
        self.highs = []
        self.along = []
        self.touching = [[] for _ in range(many)]

    def lay(self, tail, head, low, high):
        """Lay one stretch more, along which nothing goes yet."""
        stretch = len(self.along)
        self.tails.append(tail)
        self.heads.append(head)
        self.lows.append(low)
        self.highs.append(high)
        self.along.append(0)
        self.touching[tail].append((stretch, head, 1))
        self.touching[head].append((stretch, tail, -1))

    def room(self, stretch, way):
        """How much more (way 1), or less (way -1), may go along this stretch."""
        if way > 0:
            return self.highs[stretch] - self.along[stretch]
        return self.along[stretch] - self.lows[stretch]

    def sides(self, stretch, way):
        """Where more (way 1), or less (way -1), along this stretch goes on, and where it comes round to."""
        if way > 0:
            return (self.heads[stretch], self.tails[stretch])
        return (self.tails[stretch], self.heads[stretch])

    def reach(self, start, goal, barred):
        """By which (stretch, way, node) more can go on from start to each node, until goal is reached.

        None for each node that is not reached; one stretch is barred.
        """
        came = [None] * len(self.touching)
        came[start] = (barred, 0, start)
        queue, at = [start], 0
        while at < len(queue) and came[goal] is None:
            node = queue[at]
            for stretch, other, way in self.touching[node]:
                if came[other] is None and stretch != barred and self.room(stretch, way) > 0:
                    came[other] = (stretch, way, node)
                    queue.append(other)
            at += 1
        return came

    def lead(self, stretch, way, aim):
        """Lead more (way 1), or less (way -1), along this stretch, and round, until just aim goes along it.

        None if that could be done; otherwise what is reached, as reach tells it, when no more can be led.
        """
        start, goal = self.sides(stretch, way)
        while self.along[stretch] != aim:
            came = self.reach(start, goal, stretch)
            if came[goal] is None:
                return came
            self.push([(stretch, way)] + trail_to(came, start, goal), abs(aim - self.along[stretch]))
        return None

    def push(self, trail, most):
        """Lead more, so much at the most, along all of this trail of (stretch, way)."""
        more = min([most] + [self.room(stretch, way) for stretch, way in trail])
        for stretch, way in trail:
            self.along[stretch] += way * more


def trail_to(came, start, goal):
    """The (stretch, way) of a trail from start to goal, by what reach told, the last one first."""
    trail, node = [], goal
    while node != start:
        stretch, way, node = came[node]
        trail.append((stretch, way))
    return trail


def hold(flow, stretch):
    """Let neither more nor less go along this stretch than now."""
    flow.lows[stretch] = flow.along[stretch]
    flow.highs[stretch] = flow.along[stretch]
