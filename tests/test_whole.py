"""The whole program: [0] over all of it, from texts to readings, and the interface of the document."""

import importlib
import inspect
import random
import time
import unittest

from readround.desk import Desk
from readround.diary import Diary, diary_of
from readround.errors import ReadError
from readround.far import after, carried, state
from readround.houses import turn_sheet
from readround.lost import lost_rows
from readround.reading import own_day, read_day, reads, sheet
from readround.texts import house_text, read_house
from readround.where import back, most_owed, next_read, readings, times_read
from tests.sample_diaries import SORTS, diary_with, random_singles
from tests.sample_houses import ROW_NAMES, Walked, great_house, small_houses

# module: functions with their arguments, and classes with theirs and their methods
FUNCTIONS = {
    "cuts": {"is_cut": "book pieces", "fewest": "book limit", "least_limit": "book many"},
    "meets": {"meeting": "one other later day"},
    "houses": {"turn_sheet": "house name"},
    "far": {"state": "house name day", "after": "house name day", "carried": "house name day pair end"},
    "reading": {"reads": "house name day", "own_day": "house name lap piece", "read_day": "house name lap piece",
                "sheet": "house day"},
    "where": {"next_read": "house name piece day", "times_read": "house name piece day", "readings": "house name year",
              "back": "house name day", "most_owed": "house name"},
    "alike": {"parting": "one name other word"},
    "plans": {"plan": "book limits day", "years_for": "book limits calendar day", "least_more": "book limits days"},
    "lost": {"lost_rows": "house name seen bound"},
    "diary": {"diary_of": "house log"},
    "texts": {"house_text": "house", "read_house": "rows"},
}
CLASSES = {
    ("books", "Book"): {"__init__": "sections", "many": "", "__len__": "", "__eq__": "other", "sections": "", "long": "first end",
                        "blocks": ""},
    ("calendars", "Calendar"): {"__init__": "years", "__eq__": "other", "years": "", "turn": "", "long": "year", "first": "year",
                                "at": "day"},
    ("feasts", "Feast"): {"__init__": "name place days years puts", "__eq__": "other", "told": "", "span": "calendar year",
                          "keeps": "calendar day", "next_kept": "calendar day", "kept_ahead": "calendar day"},
    ("rows", "Row"): {"__eq__": "other", "told": "", "step": "pair sort"},
    ("rows", "Going"): {"__init__": "name many most begin", "__eq__": "other", "told": "", "step": "pair sort"},
    ("rows", "Yearly"): {"__init__": "name many most", "__eq__": "other", "told": "", "step": "pair sort"},
    ("houses", "House"): {"__init__": "calendar feasts rows", "calendar": "", "feasts": "", "rows": "", "row": "name",
                          "sort_on": "name day"},
    ("diary", "Diary"): {"__init__": "house", "today": "", "sort_on": "name day", "state": "name day", "reads": "name day",
                         "back": "name day", "singles": "", "put": "name day sort", "drop": "name day", "go": "day", "undo": "",
                         "log": "", "settled": "name day sort", "moves": "name day sort span"},
    ("desk", "Desk"): {"__init__": "rows", "tell": "row"},
}
ERRORS = """BadBook BadCalendar BadFeast BadRow BadHouse BadNumber NoDay NoRow NoPiece TooTight NeverDone TooFar NoDeed
    BadText""".split()


def arguments(call):
    return [name for name in inspect.signature(call).parameters if name != "self"]


class Interface(unittest.TestCase):
    def test_functions(self):
        for module, functions in FUNCTIONS.items():
            for name, names in functions.items():
                with self.subTest(module=module, name=name):
                    self.assertEqual(arguments(getattr(importlib.import_module("readround." + module), name)), names.split())

    def test_each_method_stands_in_its_own_class(self):
        for (module, kind), methods in CLASSES.items():
            made = getattr(importlib.import_module("readround." + module), kind)
            for name, names in methods.items():
                with self.subTest(kind=kind, name=name):
                    self.assertIn(name, vars(made))
                    self.assertEqual(arguments(vars(made)[name]), names.split())

    def test_errors_stand_straight_under_read_error(self):
        errors = importlib.import_module("readround.errors")
        self.assertEqual(errors.ReadError.__bases__, (ValueError,))
        for name in ERRORS:
            self.assertEqual(getattr(errors, name).__bases__, (ReadError,))


def asked_of(house, days):
    """All that the modules tell of a house, at some days."""
    told = [house_text(house)]
    for row in house.rows():
        name, many = row.told()[1:3]
        told += [most_owed(house, name), turn_sheet(house, name)]
        for day in days:
            pair = state(house, name, day)
            told += [pair, after(house, name, day), carried(house, name, day, pair, day + 99), reads(house, name, day),
                     next_read(house, name, many - 1, day), times_read(house, name, many // 2, day), readings(house, name, day),
                     back(house, name, day), own_day(house, name, day + 1, 0), read_day(house, name, day + 1, 0), sheet(house, day)]
            if row.told()[0] == "going":
                told.append(lost_rows(house, name, [(day, [])], 9))
    return told


class AskedAgain(unittest.TestCase):
    def test_diaries_and_desks_change_nothing_of_a_house(self):
        chance = random.Random(111)
        days = (0, 7, 10 ** 30)
        for house in small_houses(15):
            told = asked_of(house, days)
            diary = diary_with(house, random_singles(chance, house, 9, 40))
            diary.go(50)
            desk = Desk(house_text(house))
            desk.tell(f"put {house.rows()[0].told()[1]} 3 off")
            diary_of(house, diary.log()).undo()
            self.assertEqual(asked_of(house, days), told)
            self.assertEqual(asked_of(read_house(house_text(house)), days), told)


class FromTextsToReadings(unittest.TestCase):
    def test_a_great_house_by_texts(self):
        begun = time.monotonic()
        chance = random.Random(112)
        rows = house_text(great_house())
        self.assertEqual(len(rows), 13)
        desk, house = Desk(rows), read_house(rows)
        singles = random_singles(chance, house, 20, 8000)
        for day, name, sort in singles:
            self.assertEqual(desk.tell(f"put {name} {day} {sort}"), ["done"])
        walked = Walked(house, 2, singles)
        for day in range(0, 16000, 211):
            expected = []
            for name in ROW_NAMES:
                read = [f"{lap}/{piece}" for lap, piece, own in walked.steps[name][day][2]]
                expected.append(" ".join([name, walked.marks[name][day][0]] + read))
                due, owed = walked.steps[name][day][0]
                self.assertEqual(desk.tell(f"owed {name} {day}"), [f"{due} {owed}"])
            self.assertEqual(desk.tell(f"on {day}"), expected)
        self.assertLess(time.monotonic() - begun, 60)

    def test_far_days_with_twenty_single_days(self):
        begun = time.monotonic()
        chance = random.Random(113)
        desk, house = Desk(house_text(great_house())), great_house()
        diary = Diary(house)
        days = sorted([chance.randrange(10 ** chance.randint(1, 60)) for again in range(20)])
        for day in days:
            name, sort = chance.choice(ROW_NAMES), chance.choice(SORTS)
            self.assertEqual(desk.tell(f"put {name} {day} {sort}"), ["done"])
            diary.put(name, day, sort)
        for day in days + [10 ** 60 - 1, 10 ** 59]:
            self.assertEqual(len(desk.tell(f"on {day}")), 4)
            for row in house.rows():
                name = row.told()[1]
                due, owed = diary.state(name, day)
                self.assertEqual(desk.tell(f"owed {name} {day}"), [f"{due} {owed}"])
                found = diary.back(name, day)
                self.assertEqual(desk.tell(f"back {name} {day}"), [str(found)])
                self.assertEqual(row.step(diary.state(name, found), diary.sort_on(name, found)[0])[0][1], 0)
                for lap, piece, own, feast in diary.reads(name, day):
                    self.assertEqual(feast, diary.sort_on(name, own)[1])
        self.assertEqual(diary_of(house, diary.log()).singles(), diary.singles())
        self.assertLess(time.monotonic() - begun, 60)


if __name__ == "__main__":
    unittest.main()
