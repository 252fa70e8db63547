"""Houses that several tests share, and what a walk day by day tells of them."""

import random

from readround.calendars import Calendar
from readround.errors import NeverDone
from readround.feasts import Feast
from readround.houses import House
from readround.rows import Going, Yearly
from tests import plain

FAR = 10 ** 59
ROW_NAMES = ("psalm", "lesson", "gospel", "hymn")
FEAST_NAMES = ("lent", "easter", "advent", "trinity", "saints", "psalm", "peter", "paul")

# going rows that need all the room that a turn has
TIGHT = (
    House(Calendar([2]), [Feast("lent", 0, 1, None, [("psalm", "off")])], [Going("psalm", 3, 2)]),
    House(Calendar([2]), [Feast("lent", 1, 1, None, [("psalm", "off")])], [Going("psalm", 3, 2, 2)]),
    House(Calendar([10]), [Feast("lent", 3, 5, None, [("psalm", "off")])], [Going("psalm", 7, 2, 1)]),
    House(Calendar([10]), [Feast("lent", -5, 5, None, [("psalm", "off")])], [Going("psalm", 150, 2)]),
    House(Calendar([9, 9]), [Feast("lent", 0, 8, [0], [("psalm", "off")]), Feast("paul", 1, 8, [1], [("psalm", "off")])],
          [Going("psalm", 5, 9)]),
    House(Calendar([3, 6]), [Feast("lent", 0, 2, None, [("psalm", "off")]), Feast("paul", 5, 1, None, [("psalm", "rest")]),
                             Feast("peter", 2, 2, None, [("psalm", "off")])], [Going("psalm", 4, 8, 3)]),
    House(Calendar([4]), [], [Going("psalm", 3, 1), Yearly("lesson", 3, 1)]),
)

# rows of which nothing ever comes due, and yearly ones that are never free
ASLEEP = House(Calendar([5, 3]), [Feast("lent", 0, 5, None, [("psalm", "rest"), ("lesson", "rest"), ("hymn", "off")])],
               [Going("psalm", 3, 2, 1), Yearly("lesson", 2, 2), Yearly("hymn", 4, 9)])


def random_feast(chance, name, years, names):
    place = chance.randint(-max(years) - 1, max(years))
    chosen = [year for year in range(len(years)) if chance.random() < 0.6] if chance.random() < 0.5 else None
    puts = [(row, chance.choice(("off", "rest"))) for row in names if chance.random() < 0.7]
    return Feast(name, place, chance.randint(1, 4), chosen or None, puts)


def random_row(chance, name):
    many = chance.choice((1, 2, 3, 5, 8, 13))
    if chance.random() < 0.5:
        return Yearly(name, many, chance.randint(1, 3))
    return Going(name, many, chance.randint(1, 4), chance.randrange(many))


def random_house(seed):
    """A small house that is the same for the same seed."""
    chance = random.Random(seed)
    while True:
        years = [chance.randint(1, 11) for year in range(chance.randint(1, 4))]
        names = ROW_NAMES[:chance.randint(1, 4)]
        feasts = [random_feast(chance, name, years, names) for name in FEAST_NAMES[:chance.randint(0, 8)]]
        try:
            return House(Calendar(years), feasts, [random_row(chance, name) for name in names])
        except NeverDone:
            pass


def small_houses(count):
    return [random_house(seed) for seed in range(count)] + list(TIGHT) + [ASLEEP]


def great_house():
    """20 years of 400 days, 8 feasts and 4 rows of 10 ** 6 pieces."""
    feasts = []
    for place, name in enumerate(FEAST_NAMES):
        puts = [(row, "rest" if (place + at) % 3 == 0 else "off") for at, row in enumerate(ROW_NAMES)]
        feasts.append(Feast(name, 47 * place - 60 * (place % 2), 40 - place, [place, place + 3, 2 * place + 5], puts))
    rows = [Going("psalm", 10 ** 6, 2, 999999), Going("lesson", 10 ** 6, 9, 5), Yearly("gospel", 10 ** 6, 1),
            Yearly("hymn", 10 ** 6, 3)]
    return House(Calendar([400] * 20), feasts, rows)


WORDS = ("off", "rest", "free", "going", "yearly", "feast", "all", "calendar", "put", "drop", "go", "log", "never", "done")


def renamed(house, row_names, feast_names):
    """The same house with other names."""
    names = {row.told()[1]: new for row, new in zip(house.rows(), row_names)}
    rows = [Going(names[told[1]], *told[2:]) if told[0] == "going" else Yearly(names[told[1]], *told[2:])
            for told in [row.told() for row in house.rows()]]
    feasts = []
    for new, feast in zip(feast_names, house.feasts()):
        name, place, days, years, puts = feast.told()
        feasts.append(Feast(new, place, days, years, [(names[row], sort) for row, sort in puts]))
    return House(house.calendar(), feasts, rows)


def word_houses(house):
    """The house with words of the program in the place of its names, all of them by turns."""
    for first in range(len(WORDS)):
        words = WORDS[first:] + WORDS[:first]
        yield renamed(house, words[:4], words[-8:])


class Walked:
    """A house walked day by day for some turns, by the words of the document alone, also with single days."""

    def __init__(self, house, turns, singles=()):
        self.house = house
        self.years = house.calendar().years()
        self.turn = sum(self.years)
        self.days = turns * self.turn
        self.dates = plain.dates(self.years, self.days)
        self.feasts = [feast.told() for feast in house.feasts()]
        self.marks, self.steps = {}, {}
        for row in house.rows():
            told = row.told()
            marks = [plain.sort_on(self.feasts, self.years, told[1], year, place) for year, place in self.dates]
            for day, name, sort in singles:
                if name == told[1] and day < self.days:
                    marks[day] = (sort, "")
            self.marks[told[1]] = marks
            self.steps[told[1]] = plain.walk(told, [sort for sort, feast in marks], self.dates)

    def kept(self, day):
        """The names of the feasts that are kept on a day."""
        return [feast[0] for feast in self.feasts if plain.kept(feast, self.years, *self.dates[day])]

    def reads(self, name, day):
        """What reads is to tell of a day."""
        return [(lap, piece, own, self.marks[name][own][1]) for lap, piece, own in self.steps[name][day][2]]

    def due_in_turn(self, name):
        return len([sort for sort, feast in self.marks[name][:self.turn] if sort != "rest"])
