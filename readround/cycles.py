"""Days that come again in each turn."""


def last_at_most(rising, number):
    """Tell the place of the last of the rising numbers that is at most number; the first one always is."""
    low = 0
    high = len(rising) - 1
    while low < high:
        middle = (low + high + 1) // 2
        if rising[middle] <= number:
            low = middle
        else:
            high = middle - 1
    return low


def sums_ahead(sizes):
    """List for each size the sum of those ahead of it."""
    sums = []
    total = 0
    for size in sizes:
        sums.append(total)
        total += size
    return sums


class Cycle:
    """The days of some stretches (first, end) of one turn, in order, and the same days of each later turn."""

    def __init__(self, size, spans):
        self.size = size
        self.spans = list(spans)
        self.begins = [first for first, end in spans]
        self.counts = sums_ahead([end - first for first, end in spans])
        self.total = sum([end - first for first, end in spans])

    def ahead(self, day):
        """Tell how many of the days lie ahead of day."""
        turns, place = divmod(day, self.size)
        return turns * self.total + self.ahead_in_turn(place)

    def ahead_in_turn(self, place):
        """Tell how many of the days of one turn lie ahead of a place in it."""
        if not self.spans or place < self.begins[0]:
            return 0
        at = last_at_most(self.begins, place)
        first, end = self.spans[at]
        return self.counts[at] + min(place, end) - first

    def nth(self, number):
        """Tell the day ahead of which just number of the days lie, None where there are no days at all."""
        if not self.spans:
            return None
        turns, left = divmod(number, self.total)
        at = last_at_most(self.counts, left)
        return turns * self.size + self.begins[at] + left - self.counts[at]
