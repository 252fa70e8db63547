"""Far days: the state of a row at any day, without a walk day by day."""

from readround.calendars import check_day
from readround.errors import BadNumber
from readround.kinds import is_number_from


def state(house, name, day):
    """Tell the state of a row at the beginning of a day."""
    wheel = house.wheel(name)
    check_day(day)
    return wheel.state_at(day)


def after(house, name, day):
    """Tell the state that the step of a day leaves."""
    wheel = house.wheel(name)
    check_day(day)
    sort, feast = wheel.mark(day)
    return wheel.series.leap(wheel.state_at(day), sort, 1)


def carried(house, name, day, pair, end):
    """Tell the state at the beginning of end where it is pair at the beginning of day."""
    wheel = house.wheel(name)
    check_day(day)
    if not is_number_from(end, day):
        raise BadNumber("a state is carried to no day that lies behind its own")
    if not wheel.series.is_state(pair):
        raise BadNumber("the pair is no state of that row")
    return wheel.carry(pair, day, end)
