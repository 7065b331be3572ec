"""Weights on what lacks at some PLACES, that bound the KITS which fill it (points 51 and 52).

Each PLACE may get a weight, each of the KITS an excess, from nought on, where no KIT HAS more, by weight, than one and
its excess. They COUNT as all lacks, each times its weight, less the excesses, each times how many of the KIT there may
be. Fewer KITS than that never fill what lacks. The greatest COUNT is sought: from noughts on one weight or excess after
another goes up as far as the KITS let it. Where it is no more than a bound, so many KITS, in fractions, do fill it.

All is kept times one scale, so that it is NUMBERS throughout, however fine the fractions are.
"""


def unit_row(size, at, one):
    """A list of noughts of this size, with one at this place."""
    return [one if own == at else 0 for own in range(size)]


def crossed(row, lead, column, scale):
    """The row with nothing left in the column, as lead is taken off it, at the scale of lead's own there."""
    # this leaves no rest, as each is a determinant of what stood there at first
    return [(own * lead[column] - row[column] * other) // scale for own, other in zip(row, lead)]


class Weighing:
    """A row for each of the KITS, with columns for the weights, the excesses, what is spare, and how much there is."""

    def __init__(self, lacks, haves, spans):
        kits = len(spans)
        self.places = len(lacks)
        self.table = [have + unit_row(kits, k, -1) + unit_row(kits, k, 1) + [1] for k, have in enumerate(haves)]
        # by how much the COUNT goes up with each column; at the end the COUNT, below nought
        self.goal = lacks + [-span for span in spans] + [0] * kits + [0]
        # the column of which each row tells how much there is; of the others there is nothing
        self.columns = [self.places + kits + k for k in range(kits)]
        self.scale = 1

    def is_above(self, bound):
        """True where the COUNT is more than the bound."""
        return -self.goal[-1] > bound * self.scale

    def rising_column(self):
        """The first column with which the COUNT goes up; None where there is none."""
        for column, more in enumerate(self.goal[:-1]):
            if more > 0:
                return column
        return None

    def stopping_row(self, column):
        """The place of the row that stops the column first as it goes up; None where none does."""
        first = None
        for at, row in enumerate(self.table):
            if row[column] > 0 and (first is None or self.stops_sooner(at, first, column)):
                first = at
        return first

    def stops_sooner(self, at, first, column):
        """True where row at stops the column sooner than row first does."""
        one, other = self.table[at], self.table[first]
        sooner, later = one[-1] * other[column], other[-1] * one[column]
        # of two at once the one of the lesser column, so that it never goes round in a circle
        return sooner < later or (sooner == later and self.columns[at] < self.columns[first])

    def raise_column(self, column, at):
        """The column goes up until row at, which stops it, tells of it."""
        lead = self.table[at]
        self.table = [lead if k == at else crossed(row, lead, column, self.scale) for k, row in enumerate(self.table)]
        self.goal = crossed(self.goal, lead, column, self.scale)
        self.columns[at] = column
        self.scale = lead[column]

    def weights_beyond(self, column, bound):
        """The weights with the column, which nothing stops, so far up that the COUNT is above the bound."""
        steps = (bound * self.scale + self.goal[-1]) // self.goal[column] + 1
        worth = {own: row[-1] - row[column] * steps for own, row in zip(self.columns, self.table)}
        worth[column] = steps * self.scale
        return [worth.get(place, 0) for place in range(self.places)]

    def weights_now(self):
        """The weight of each PLACE."""
        worth = {own: row[-1] for own, row in zip(self.columns, self.table)}
        return [worth.get(place, 0) for place in range(self.places)]

    def filling(self):
        """How many of each of the KITS fill what lacks, as many as the COUNT, where that is the greatest."""
        kits = len(self.table)
        return [-self.goal[self.places + kits + k] for k in range(kits)]


def weighed(lacks, haves, spans, bound):
    """("weights", scale, weights), that COUNT above the bound, or ("filling", scale, many), that are not above it.

    lacks has what lacks at each PLACE, haves, for each of the KITS, what it HAS at each, spans how many of it there
    may be: from 0 on, but where the bound is below that. What is told is all times the scale.
    """
    weighing = Weighing(lacks, haves, spans)
    while not weighing.is_above(bound):
        column = weighing.rising_column()
        if column is None:
            return ("filling", weighing.scale, weighing.filling())
        at = weighing.stopping_row(column)
        if at is None:
            return ("weights", weighing.scale, weighing.weights_beyond(column, bound))
        weighing.raise_column(column, at)
    return ("weights", weighing.scale, weighing.weights_now())
