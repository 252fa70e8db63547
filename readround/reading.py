"""Readings: what is read on a day, and the days on which a piece comes due and is read."""

from readround.calendars import check_day
from readround.errors import NoPiece
from readround.far import after
from readround.kinds import is_number_from, is_number_within


def told_reading(wheel, day, number):
    """Tell (round, piece, own, feast) of a number that is read on a day."""
    lap, piece = wheel.lap_and_piece(day, number)
    own = wheel.due_on(lap, number)
    sort, feast = wheel.mark(own)
    return lap, piece, own, feast


def numbers_on(wheel, day):
    """List the numbers that are read on a day."""
    sort, feast = wheel.mark(day)
    behind, numbers = wheel.series.step(wheel.state_at(day), sort)
    return numbers


def wheel_reads(wheel, day):
    """List what of the wheel's row is read on a day, in order, each as (round, piece, own, feast)."""
    return [told_reading(wheel, day, number) for number in numbers_on(wheel, day)]


def reads(house, name, day):
    """List what of a row is read on a day, in order, each as (round, piece, own, feast)."""
    wheel = house.wheel(name)
    check_day(day)
    return wheel_reads(wheel, day)


def check_piece(wheel, piece):
    """Refuse a piece that the row hasn't."""
    if not is_number_within(piece, 0, wheel.series.pieces - 1):
        raise NoPiece("the row has no such piece")


def check_lap_piece(wheel, lap, piece):
    """Refuse a piece of a round that the row never has."""
    if not is_number_from(lap, 0):
        raise NoPiece("rounds are counted from 0")
    check_piece(wheel, piece)
    if wheel.number_of(lap, piece) < 0:
        raise NoPiece("the row begins behind that piece")


def own_day(house, name, lap, piece):
    """Tell the day on which a piece of a round comes due, None where that never comes."""
    wheel = house.wheel(name)
    check_lap_piece(wheel, lap, piece)
    return wheel.due_on(lap, wheel.number_of(lap, piece))


def read_day(house, name, lap, piece):
    """Tell the day on which a piece of a round is read, None where that never comes."""
    wheel = house.wheel(name)
    check_lap_piece(wheel, lap, piece)
    return wheel.read_on(lap, wheel.number_of(lap, piece))


def row_sheet(house, name, day):
    """Tell (name, sort, owed, list of reads) of a row on a day."""
    sort, feast = house.sort_on(name, day)
    due, owed = after(house, name, day)
    return name, sort, owed, reads(house, name, day)


def sheet(house, day):
    """Tell the names of the feasts kept on a day, and what each row does on it."""
    check_day(day)
    names = [feast.name for feast in house.feasts() if feast.keeps(house.calendar(), day)]
    return names, [row_sheet(house, row.name, day) for row in house.rows()]
