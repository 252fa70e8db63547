"""Plans: a book read day by day, within limits that are gone round."""

from readround.calendars import check_day
from readround.cuts import longest_block, refuse_long_blocks
from readround.errors import BadNumber
from readround.kinds import is_list_within, is_number_from, is_number_within

MOST_LIMITS = 30
GREATEST_LIMIT = 10 ** 14


def check_limits(limits):
    """Refuse what are no limits."""
    if not is_list_within(limits, 1, MOST_LIMITS):
        raise BadNumber("limits are a list of 1 to 30 numbers")
    if not all([is_number_within(limit, 0, GREATEST_LIMIT) for limit in limits]):
        raise BadNumber("a limit is a number from 0 to 10 ** 14")


def blocks_within(sizes, at, limit):
    """Tell the place behind the last block that, with all from the place at on, is within the limit."""
    while at < len(sizes) and sizes[at] <= limit:
        limit -= sizes[at]
        at += 1
    return at


def planned(book, limits, day):
    """List (day, first, end) of the plan; no block may be longer than the greatest limit."""
    blocks = book.blocks()
    sizes = [book.long(first, end) for first, end in blocks]
    found = []
    at = 0
    while at < len(blocks):
        behind = blocks_within(sizes, at, limits[day % len(limits)])
        if behind > at:
            found.append((day, blocks[at][0], blocks[behind - 1][1]))
        at = behind
        day += 1
    return found


def plan(book, limits, day):
    """List (day, first, end) of the plan in which each day reads as many blocks as its limit lets."""
    check_limits(limits)
    check_day(day)
    refuse_long_blocks(book, max(limits))
    return planned(book, limits, day)


def years_for(book, limits, calendar, day):
    """Tell how many years there are from that of day to that of the plan's last day, both counted."""
    last_day, first, end = plan(book, limits, day)[-1]
    return calendar.at(last_day)[0] - calendar.at(day)[0] + 1


def is_done_within(book, limits, days):
    """Tell whether the plan from day 0 has no day from days on."""
    last_day, first, end = planned(book, limits, 0)[-1]
    return last_day < days


def least_more(book, limits, days):
    """Tell the least number that, added to each limit, makes a plan from day 0 that has no day from days on."""
    check_limits(limits)
    if not is_number_from(days, 1):
        raise BadNumber("a plan needs at least one day")
    # With less than low no plan can be made, and with high all is read on day 0;
    # greater limits never make a plan longer, so the span can be halved.
    low = max(0, longest_block(book) - max(limits))
    high = max(low, book.long(0, book.many()) - limits[0])
    while low < high:
        middle = (low + high) // 2
        if is_done_within(book, [limit + middle for limit in limits], days):
            high = middle
        else:
            low = middle + 1
    return low
