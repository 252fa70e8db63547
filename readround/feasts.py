"""Feasts: days of a year that put rows off or to rest."""

from readround.calendars import MOST_YEARS, check_day
from readround.cycles import Cycle
from readround.errors import BadFeast
from readround.kinds import are_unlike, is_list_within, is_name, is_number_within, is_pair

FIRST_PLACE = -400
LAST_PLACE = 399
MOST_DAYS = 40
MOST_PUTS = 4
PUT_SORTS = ("off", "rest")


def are_kept_years(value):
    """Tell whether value is None or a list of rising places in a calendar's list of years."""
    if value is None:
        return True
    if not is_list_within(value, 1, MOST_YEARS):
        return False
    if not all([is_number_within(number, 0, MOST_YEARS - 1) for number in value]):
        return False
    return all([ahead < number for ahead, number in zip(value, value[1:])])


def is_put(value):
    """Tell whether value is a pair (name, sort)."""
    return is_pair(value) and is_name(value[0]) and value[1] in PUT_SORTS


def are_puts(value):
    """Tell whether value is None or a list of pairs (name, sort) of unlike names."""
    if value is None:
        return True
    if not is_list_within(value, 0, MOST_PUTS) or not all([is_put(put) for put in value]):
        return False
    return are_unlike([name for name, sort in value])


class Feast:
    """A feast that is kept on some days of some years of a calendar."""

    def __init__(self, name, place, days=1, years=None, puts=None):
        if not is_name(name) or not is_number_within(place, FIRST_PLACE, LAST_PLACE):
            raise BadFeast("a feast has a name, and a place from -400 to 399")
        if not is_number_within(days, 1, MOST_DAYS):
            raise BadFeast("a feast is kept on 1 to 40 days")
        if not are_kept_years(years):
            raise BadFeast("years is None or a list of 1 to 20 rising numbers, 0 to 19")
        if not are_puts(puts):
            raise BadFeast("puts is None or a list of at most 4 pairs (name, sort), the names unlike")
        self.name = name
        self.place = place
        self.days = days
        self.kept_years = None if years is None else list(years)
        self.put_rows = [] if puts is None else list(puts)

    def __eq__(self, other):
        return isinstance(other, Feast) and self.told() == other.told()

    def told(self):
        """Tell (name, place, days, years, puts)."""
        years = None if self.kept_years is None else list(self.kept_years)
        return self.name, self.place, self.days, years, list(self.put_rows)

    def span(self, calendar, year):
        """Tell the feast's first day of a year and the day behind its last, None where it isn't kept."""
        check_day(year)
        size = calendar.long(year)
        begin = self.place if self.place >= 0 else size + self.place
        if not 0 <= begin < size or not self.is_kept_in(calendar, year):
            return None
        first = calendar.first(year)
        return first + begin, first + min(begin + self.days, size)

    def is_kept_in(self, calendar, year):
        """Tell whether the year is one of the feast's years."""
        return self.kept_years is None or year % len(calendar.years()) in self.kept_years

    def keeps(self, calendar, day):
        """Tell whether the feast is kept on a day."""
        year, place = calendar.at(day)
        span = self.span(calendar, year)
        return span is not None and span[0] <= day < span[1]

    def turn_spans(self, calendar):
        """List the feast's spans in the first turn of a calendar."""
        spans = [self.span(calendar, year) for year in range(len(calendar.years()))]
        return [span for span in spans if span is not None]

    def next_kept(self, calendar, day):
        """Tell the first day, from day on, on which the feast is kept, or None."""
        check_day(day)
        cycle = Cycle(calendar.turn(), self.turn_spans(calendar))
        return cycle.nth(cycle.ahead(day))

    def kept_ahead(self, calendar, day):
        """Tell on how many days ahead of day the feast is kept."""
        check_day(day)
        return Cycle(calendar.turn(), self.turn_spans(calendar)).ahead(day)
