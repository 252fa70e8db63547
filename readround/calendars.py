"""Calendars: years of days, gone round for ever."""

from readround.cycles import last_at_most, sums_ahead
from readround.errors import BadCalendar, NoDay
from readround.kinds import is_list_within, is_number_from, is_number_within

MOST_YEARS = 20
LONGEST_YEAR = 400


def check_day(day):
    """Refuse a day, or a year, that is below 0."""
    if not is_number_from(day, 0):
        raise NoDay("days and years are counted from 0")


def are_years(value):
    """Tell whether a calendar can be made of value."""
    if not is_list_within(value, 1, MOST_YEARS):
        return False
    return all([is_number_within(size, 1, LONGEST_YEAR) for size in value])


class Calendar:
    """A calendar of 1 to 20 years that come again in that order."""

    def __init__(self, years):
        if not are_years(years):
            raise BadCalendar("a calendar is a list of 1 to 20 numbers, each 1 to 400")
        self.sizes = list(years)
        self.begins = sums_ahead(self.sizes)

    def __eq__(self, other):
        return isinstance(other, Calendar) and self.sizes == other.sizes

    def years(self):
        """List how many days the years of one turn have."""
        return list(self.sizes)

    def turn(self):
        """Tell how many days go by until the years come again."""
        return sum(self.sizes)

    def long(self, year):
        """Tell how many days a year has."""
        check_day(year)
        return self.sizes[year % len(self.sizes)]

    def first(self, year):
        """Tell the first day of a year."""
        check_day(year)
        turns, place = divmod(year, len(self.sizes))
        return turns * self.turn() + self.begins[place]

    def at(self, day):
        """Tell (year, place) of a day, the place counted from 0."""
        check_day(day)
        turns, left = divmod(day, self.turn())
        place = last_at_most(self.begins, left)
        return turns * len(self.sizes) + place, left - self.begins[place]
