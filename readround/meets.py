"""Meetings: days on which a year begins in two calendars."""

from readround.calendars import check_day


def divisor_and_factor(number, modulus):
    """Tell the greatest common divisor of both, and a factor by which number leaves it over by the modulus."""
    # number * factor leaves divisor over, number * later leaves left over, all along
    divisor, left = number, modulus
    factor, later = 1, 0
    while left:
        times = divisor // left
        divisor, left = left, divisor - times * left
        factor, later = later, factor - times * later
    return divisor, factor


def year_begins(calendar):
    """List the first days of the years of the first turn."""
    return [calendar.first(year) for year in range(len(calendar.years()))]


def meeting(one, other, later, day):
    """Tell the first day, from day on, that begins a year in one and, so much later, in other, or None."""
    check_day(later)
    check_day(day)
    # ahead of later no year of other begins
    earliest = max(later, day)
    divisor, factor = divisor_and_factor(one.turn(), other.turn())
    rounds = other.turn() // divisor
    found = []
    for begin in year_begins(one):
        for other_begin in year_begins(other):
            gap = later + other_begin - begin
            # the turns of both bring these two beginnings to one day only if the divisor parts the gap
            if gap % divisor == 0:
                met = begin + one.turn() * (gap // divisor * factor % rounds)
                found.append(earliest + (met - earliest) % (one.turn() * rounds))
    return min(found) if found else None
