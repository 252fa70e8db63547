"""Lost rows: how many pieces a going row has and with which it begins, by what was seen read."""

from readround.calendars import check_day
from readround.errors import BadNumber, NoRow
from readround.kinds import is_number_within
from readround.reading import numbers_on
from readround.rows import Going

MOST_BOUND = 60
MOST_TOLD = 2


def reads_as_seen(read, many, begin):
    """Tell whether the numbers read are just the seen pieces in a row of many pieces that begins with begin."""
    for numbers, pieces in read:
        if [(begin + number) % many for number in numbers] != pieces:
            return False
    return True


def lost_rows(house, name, seen, bound):
    """List the first two pairs (many, begin), many up to bound, by which the row reads as it was seen."""
    wheel = house.wheel(name)
    if not isinstance(wheel.series, Going):
        raise NoRow("the house has no going row of that name")
    if not is_number_within(bound, 1, MOST_BOUND):
        raise BadNumber("the bound is 1 to 60")
    for day, pieces in seen:
        check_day(day)
    # which numbers are read on a day hangs on neither many nor begin
    read = [(numbers_on(wheel, day), pieces) for day, pieces in seen]
    found = []
    for many in range(1, bound + 1):
        for begin in range(many):
            if len(found) < MOST_TOLD and reads_as_seen(read, many, begin):
                found.append((many, begin))
    return found
