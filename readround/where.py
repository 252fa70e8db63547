"""Where the readings lie: when a piece is read, how often, and what is owed."""

from readround.calendars import check_day
from readround.reading import check_piece


def next_read(house, name, piece, day):
    """Tell (day, round) of the first reading of a piece from day on, None where none comes."""
    wheel = house.wheel(name)
    check_piece(wheel, piece)
    check_day(day)
    return wheel.next_reading(piece, day)


def times_read(house, name, piece, day):
    """Tell how often a piece is read ahead of day."""
    wheel = house.wheel(name)
    check_piece(wheel, piece)
    check_day(day)
    return wheel.times_ahead(piece, day)


def readings(house, name, year):
    """Tell how many readings of a row lie on the days of a year."""
    wheel = house.wheel(name)
    check_day(year)
    return wheel.readings_in(year)


def back(house, name, day):
    """Tell the first day, from day on, behind whose step nothing is owed, None where none comes."""
    wheel = house.wheel(name)
    check_day(day)
    return wheel.clear_on(wheel.state_at(day), day, None)


def most_owed(house, name):
    """Tell (owed, day): the most that is owed behind the step of any day, and the first such day."""
    peaks = house.wheel(name).all_peaks()
    return min(peaks, key=lambda peak: (-peak[0], peak[1]))
