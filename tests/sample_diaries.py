"""Diaries that several tests share."""

from readround.diary import Diary
from tests.sample_houses import Walked

SORTS = ("free", "off", "rest")


def diary_with(house, singles):
    """A diary in which these single days stand, each (day, name, sort)."""
    diary = Diary(house)
    for day, name, sort in singles:
        diary.put(name, day, sort)
    return diary


def random_singles(chance, house, count, days):
    """Single days, no two of them the same day of the same row."""
    found = {}
    for again in range(count):
        found[chance.randrange(days), chance.choice(house.rows()).told()[1]] = chance.choice(SORTS)
    return [(day, name, sort) for (day, name), sort in found.items()]


def turns_to_walk(house, days):
    """So many turns that they hold these days, and what is owed by a few single days can be read behind them."""
    return days // house.calendar().turn() + 32


def all_tellings(diary, house, days):
    """All that a diary tells of some days."""
    told = [diary.today(), diary.singles(), diary.log()]
    for row in house.rows():
        name = row.told()[1]
        for day in days:
            told.append((diary.sort_on(name, day), diary.state(name, day), diary.reads(name, day), diary.back(name, day)))
    return told


def walked_with(house, singles, days):
    return Walked(house, turns_to_walk(house, days), singles)
