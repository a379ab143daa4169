"""Values that are not known, of which deeds and what was read tell something."""


def greater(one, other):
    """The greater one of two integers, the first one None if there is no such bound."""
    return other if one is None else max(one, other)


def lesser(one, other):
    """The lesser one of two integers, the first one None if there is no such bound."""
    return other if one is None else min(one, other)


def moved(bound, amount):
    """A bound with an amount added to it; None stays."""
    return None if bound is None else bound + amount


class Unknown:
    """The value of an item: which ones it can have had at first, and what it is now.

    It is now the first one plus the shift, but at least low and at most high, each of them None
    where there is no such bound; these two hold also where low and high are the same.
    """

    def __init__(self):
        self.least = None
        self.most = None
        self.shift = 0
        self.low = None
        self.high = None

    def follow(self, word, amount):
        """Goes on over a deed other than a read, amount being the value of its sum."""
        if word == "add":
            self.shift = self.shift + amount
            self.low = moved(self.low, amount)
            self.high = moved(self.high, amount)
        if word in ("raise", "put"):
            self.low = greater(self.low, amount)
            self.high = None if self.high is None else max(self.high, amount)
        if word in ("lower", "put"):
            self.high = lesser(self.high, amount)
            self.low = None if self.low is None else min(self.low, amount)

    def can_be(self, value):
        """Goes on over a read that got this value; returns whether that can be."""
        if self.low is not None and value < self.low or self.high is not None and value > self.high:
            return False
        # At a bound, the first value may lie beyond it.
        if self.low is None or value > self.low:
            self.least = greater(self.least, value - self.shift)
        if self.high is None or value < self.high:
            self.most = lesser(self.most, value - self.shift)
        return self.least is None or self.most is None or self.least <= self.most

    def least_value(self):
        """That of the values which it can have had at first which is nearest to 0."""
        if self.least is not None and self.least > 0:
            return self.least
        return self.most if self.most is not None and self.most < 0 else 0
