"""The cheapest pairing of two lines of places, with prices that show that no other one is cheaper."""


def least_left(rest, reached):
    """The place with the least rest among those that are not reached."""
    left = [(more, place) for place, more in enumerate(rest) if place not in reached]
    return min(left)[1]


class Pairing:
    """Places of the one line, paired one behind another; prices of two places are never more than the two cost."""

    def __init__(self, costs):
        many = len(costs)
        self.costs = costs
        self.left = [0] * many
        self.right = [0] * many
        self.paired = [None] * many

    def nearer(self, place, by, rest, came_by):
        """Look from a place of the one, come to by a place of the other, at what pairs cost above their prices."""
        for other, cost in enumerate(self.costs[place]):
            more = cost - self.left[place] - self.right[other]
            if rest[other] is None or more < rest[other]:
                rest[other] = more
                came_by[other] = by

    def pay(self, first, reached, more):
        """Raise the price of the first place, and of those whose partners are reached, these paying for it."""
        self.left[first] = self.left[first] + more
        for other in reached:
            place = self.paired[other]
            self.left[place] = self.left[place] + more
            self.right[other] = self.right[other] - more

    def pair_next(self, first):
        """Pair one more place of the one, others perhaps anew."""
        many = len(self.costs)
        rest, came_by = [None] * many, [None] * many
        reached = []
        place, by = first, None
        while place is not None:
            self.nearer(place, by, rest, came_by)
            by = least_left(rest, reached)
            more = rest[by]
            # What was looked at costs as much less, above its prices, as the prices rise.
            self.pay(first, reached, more)
            rest = [0 if other in reached else above - more for other, above in enumerate(rest)]
            reached.append(by)
            place = self.paired[by]
        while by is not None:
            self.paired[by] = first if came_by[by] is None else self.paired[came_by[by]]
            by = came_by[by]


def cheapest_pairing(costs):
    """(By place of the one line that of the other one, the prices of the one's places, those of the other's)."""
    pairing = Pairing(costs)
    for place in range(len(costs)):
        pairing.pair_next(place)
    partners = [pairing.paired.index(place) for place in range(len(costs))]
    return tuple(partners), tuple(pairing.left), tuple(pairing.right)
