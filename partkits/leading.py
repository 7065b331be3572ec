"""PARTS led to WANTS, as many as can be (points 24 and 27).

First they go to the WANTS that want some SHADES, for a WANT of any SHADE takes whatever these leave. Where one of
them lacks some, a PART that is left may come to it by way of others, each of which hands on a PART and gets the next
one for it. Where no more can be led so, the SHADES to which one comes from the WANTS that lack are all given to WANTS
that let none but these, and are too few for them.
"""

from partkits.places import over_at


def steps_to(part, by_want, by_part):
    """The way back from a PART to a WANT that lacks: (want, the PART that it gets, the one that it hands on)."""
    steps = []
    while part is not None:
        at = by_want[part]
        steps.append((at, part, by_part[at]))
        part = by_part[at]
    return steps


class Leading:
    """What is left of a HEAP, what WANTS lack, and what each of them has so far."""

    def __init__(self, heap, wants):
        self.wants = wants
        self.left = {(form, shade): many for form, shade, many in heap.rows()}
        self.lacks = [many for form, shades, many in wants]
        self.gifts = [{} for want in wants]

    def lead(self):
        """Leads PARTS to the WANTS that want some SHADES until no more can be led."""
        while self.lead_once():
            pass

    def lead_once(self):
        """Leads PARTS by one of the shortest ways; False where there is none."""
        by_want, by_part = self.reached()
        ends = [part for part in by_want if self.left.get(part, 0) > 0]
        if len(ends) == 0:
            return False
        # the shortest way first: so there are few, however many PARTS there are
        self.hand_on(steps_to(ends[0], by_want, by_part))
        return True

    def reached(self):
        """By which WANT one comes to each PART, and by which PART to each WANT, from those that lack.

        Near ones are told first.
        """
        by_part = {at: None for at, many in enumerate(self.lacks) if many > 0}
        by_want = {}
        wave = list(by_part)
        while len(wave) > 0:
            wave = self.next_wave(wave, by_want, by_part)
        return (by_want, by_part)

    def next_wave(self, wave, by_want, by_part):
        """The WANTS, not come to before, that have PARTS which those of the wave let."""
        told = []
        for at in wave:
            form, shades, many = self.wants[at]
            for shade in shades:
                if (form, shade) not in by_want:
                    by_want[form, shade] = at
                    told.extend(self.holders((form, shade), by_part))
        return told

    def holders(self, part, by_part):
        """The WANTS, not come to before, that have the PART; one has come to them by it then."""
        fresh = [at for at, gift in enumerate(self.gifts) if part in gift and at not in by_part]
        for at in fresh:
            by_part[at] = part
        return fresh

    def hand_on(self, steps):
        """Leads as many PARTS as can be by these steps, the last of which is at a WANT that lacks."""
        end = steps[0][1]
        start = steps[-1][0]
        handed = [self.gifts[at][gone] for at, got, gone in steps[:-1]]
        many = min([self.left[end], self.lacks[start]] + handed)
        self.left[end] -= many
        self.lacks[start] -= many
        for at, got, gone in steps:
            self.add_gift(at, got, many)
            if gone is not None:
                self.add_gift(at, gone, -many)

    def add_gift(self, at, part, many):
        """Puts so many of the PART to what the WANT has; below nought, takes them."""
        gift = self.gifts[at]
        gift[part] = gift.get(part, 0) + many
        if gift[part] == 0:
            del gift[part]

    def fill(self):
        """Gives the WANTS that lack what is left of their FORM, of whatever SHADE."""
        for at, want in enumerate(self.wants):
            for part in sorted(self.left):
                if part[0] == want[0]:
                    many = min(self.lacks[at], self.left[part])
                    self.left[part] -= many
                    self.lacks[at] -= many
                    self.add_gift(at, part, many)

    def given(self):
        """What each WANT has, as GIFTS."""
        return tuple([tuple([(shade, gift[form, shade]) for form, shade in sorted(gift)]) for gift in self.gifts])

    def sets(self):
        """Where no more can be led: (form, shades) of each FORM of which a WANT of some SHADES lacks, rising."""
        parts = sorted(self.reached()[0])
        forms = sorted({form for form, shade in parts})
        return tuple([(named, tuple([shade for form, shade in parts if form == named])) for named in forms])


def led(heap, wants):
    """The HEAP's PARTS led to the WANTS that want some SHADES, as many as can be."""
    leading = Leading(heap, wants)
    leading.lead()
    return leading


def short_form(heap, wants):
    """A FORM of which all WANTS want more than the HEAP has; None where there is none."""
    for form in sorted({form for form, shades, many in wants}):
        if over_at(heap, wants, form, None) > 0:
            return form
    return None
