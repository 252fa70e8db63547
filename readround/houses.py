"""Houses: a calendar, its feasts, and the rows that are read by it."""

from readround.calendars import Calendar, check_day
from readround.errors import BadHouse, NeverDone, NoRow
from readround.feasts import Feast
from readround.kinds import are_unlike, is_list_within
from readround.rows import Going, Yearly
from readround.wheels import wheel_of

MOST_FEASTS = 8
MOST_ROWS = 4


def are_feasts(value):
    """Tell whether value is a list of at most 8 feasts with unlike names."""
    if not is_list_within(value, 0, MOST_FEASTS):
        return False
    return all([isinstance(feast, Feast) for feast in value]) and are_unlike([feast.name for feast in value])


def is_row(value):
    """Tell whether value is a going or a yearly row."""
    return isinstance(value, Going) or isinstance(value, Yearly)


def are_rows(value):
    """Tell whether value is a list of 1 to 4 rows with unlike names."""
    if not is_list_within(value, 1, MOST_ROWS):
        return False
    return all([is_row(row) for row in value]) and are_unlike([row.name for row in value])


def fits(feast, calendar, names):
    """Tell whether the calendar has all years that the feast names, and the house all rows."""
    name, place, days, years, puts = feast.told()
    if years is not None and years[-1] >= len(calendar.years()):
        return False
    return all([put_name in names for put_name, sort in puts])


def check_house(calendar, feasts, rows):
    """Refuse what makes no house."""
    if not isinstance(calendar, Calendar):
        raise BadHouse("a house has a calendar")
    if not are_feasts(feasts):
        raise BadHouse("a house has a list of at most 8 feasts with unlike names")
    if not are_rows(rows):
        raise BadHouse("a house has a list of 1 to 4 rows with unlike names")
    names = [row.name for row in rows]
    if not all([fits(feast, calendar, names) for feast in feasts]):
        raise BadHouse("a feast names a year that the calendar hasn't, or a row that the house hasn't")


def marks_of(calendar, feasts, name):
    """List (sort, feast) of a row for each day of one turn."""
    marks = [("free", "")] * calendar.turn()
    # What is put down last stands: rest over off, and of feasts that put alike the first in order.
    for sort in ("off", "rest"):
        for feast in reversed(feasts):
            if (name, sort) in feast.put_rows:
                for first, end in feast.turn_spans(calendar):
                    marks[first:end] = [(sort, feast.name)] * (end - first)
    return marks


def check_room(wheel):
    """Refuse a going row of which more comes due in one turn than can be read."""
    row = wheel.series
    due = wheel.waking.total
    room = row.most * wheel.free.total
    if isinstance(row, Going) and due > room:
        raise NeverDone(row.name, due, room)


class House:
    """A calendar with its feasts and its rows of pieces."""

    def __init__(self, calendar, feasts, rows):
        check_house(calendar, feasts, rows)
        self.dates = calendar
        self.kept_feasts = list(feasts)
        self.wheels = [wheel_of(calendar, row, marks_of(calendar, feasts, row.name)) for row in rows]
        for wheel in self.wheels:
            check_room(wheel)

    def calendar(self):
        """Tell the calendar."""
        return self.dates

    def feasts(self):
        """List the feasts in their order."""
        return list(self.kept_feasts)

    def rows(self):
        """List the rows in their order."""
        return [wheel.series for wheel in self.wheels]

    def wheel(self, name):
        """Tell the wheel of the row of that name."""
        for wheel in self.wheels:
            if wheel.series.name == name:
                return wheel
        raise NoRow("the house has no row of that name")

    def row(self, name):
        """Tell the row of that name."""
        return self.wheel(name).series

    def sort_on(self, name, day):
        """Tell (sort, feast) of a row on a day, the feast being the first one that does so."""
        wheel = self.wheel(name)
        check_day(day)
        return wheel.mark(day)


def turn_sheet(house, name):
    """List the stretches (first day, how many days, sort, feast) of the first turn."""
    return list(house.wheel(name).stretches)
