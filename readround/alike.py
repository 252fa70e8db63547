"""Two rows: the first day on which they read unlike pieces."""

from readround.errors import TooFar
from readround.meets import divisor_and_factor
from readround.reading import numbers_on
from readround.rows import Yearly

FARTHEST = 3000


def way_of(wheel):
    """Tell behind how many days, from the second turn on, the row reads the same pieces again."""
    due = wheel.waking.total
    if isinstance(wheel.series, Yearly) or due == 0:
        return wheel.size
    divisor, factor = divisor_and_factor(wheel.series.pieces, due)
    return wheel.size * wheel.series.pieces // divisor


def pieces_on(wheel, day):
    """List the pieces that are read on a day."""
    return [wheel.lap_and_piece(day, number)[1] for number in numbers_on(wheel, day)]


def parting(one, name, other, word):
    """Tell the first day on which the rows name of one and word of other read unlike pieces, or None."""
    first = one.wheel(name)
    second = other.wheel(word)
    ways = way_of(first) + way_of(second)
    if first.size + second.size + ways > FARTHEST:
        raise TooFar("the two rows would have to be followed for too long")
    # Behind the first turn of each, each comes again behind its way. What comes again behind
    # one number and what comes again behind another are alike for ever if they are so for
    # as long as both numbers added together.
    for day in range(max(first.size, second.size) + ways):
        if pieces_on(first, day) != pieces_on(second, day):
            return day
    return None
