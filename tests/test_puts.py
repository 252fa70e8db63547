"""[13] Single days, and what [0] and [7] say of them."""

import itertools
import random
import time
import unittest

from readround.calendars import Calendar
from readround.far import carried, state
from readround.feasts import Feast
from readround.houses import House
from readround.reading import reads
from readround.rows import Going, Yearly
from readround.where import back
from tests.sample_diaries import SORTS, diary_with, random_singles, turns_to_walk
from tests.sample_houses import ASLEEP, FAR, ROW_NAMES, TIGHT, Walked, great_house, small_houses

# psalm: off on the days 1 and 2 of each year; lesson: at rest then
SMALL = House(Calendar([5, 4]), [Feast("lent", 1, 2, None, [("psalm", "off"), ("lesson", "rest")])],
              [Going("psalm", 3, 2, 1), Yearly("lesson", 3, 1), Yearly("hymn", 9, 1)])
HOUSES = [SMALL, ASLEEP] + list(TIGHT)


class AgainstAWalk(unittest.TestCase):
    def against_a_walk(self, house, singles, asked, names=None):
        """All tellings of the days 0 to asked - 1 are those of a walk from day 0."""
        diary = diary_with(house, singles)
        walked = Walked(house, turns_to_walk(house, asked), singles)
        for name in names or walked.steps:
            # the walk is so long that what is ever read is read in it
            clear = [day for day, (ahead, behind, read) in enumerate(walked.steps[name]) if behind[1] == 0]
            place = 0
            for day in range(asked):
                self.assertEqual(diary.sort_on(name, day), walked.marks[name][day])
                self.assertEqual(diary.state(name, day), walked.steps[name][day][0])
                self.assertEqual(diary.reads(name, day), walked.reads(name, day))
                while place < len(clear) and clear[place] < day:
                    place += 1
                self.assertEqual(diary.back(name, day), clear[place] if place < len(clear) else None, (singles, name, day))

    def test_none_put(self):
        for house in HOUSES + small_houses(10):
            self.against_a_walk(house, [], 2 * house.calendar().turn())

    def test_each_day_of_two_turns_to_each_sort(self):
        for house in HOUSES:
            for row in house.rows():
                name = row.told()[1]
                for day in range(2 * house.calendar().turn()):
                    for sort in SORTS:
                        self.against_a_walk(house, [(day, name, sort)], 3 * house.calendar().turn(), [name])

    def test_two_days_in_a_row(self):
        for house in HOUSES[:4]:
            turn = house.calendar().turn()
            for first in range(turn):
                for one, two in itertools.product(SORTS, SORTS):
                    singles = [(first, "psalm", one), (first + 1, "psalm", two)]
                    self.against_a_walk(house, singles, 2 * turn + 2, ["psalm"])

    def test_some_single_days(self):
        chance = random.Random(41)
        for house in small_houses(60):
            turn = house.calendar().turn()
            for count in (1, 3, 6):
                self.against_a_walk(house, random_singles(chance, house, count, 3 * turn), 4 * turn)

    def test_twenty_single_days(self):
        chance = random.Random(42)
        for house in small_houses(25):
            turn = house.calendar().turn()
            singles = random_singles(chance, house, 20, 4 * turn)
            diary, walked = diary_with(house, singles), Walked(house, 5, singles)
            for name, steps in walked.steps.items():
                for day in range(walked.days):
                    self.assertEqual(diary.state(name, day), steps[day][0])
                    self.assertEqual(diary.reads(name, day), walked.reads(name, day))

    def test_days_in_a_row_all_put_off(self):
        for house in HOUSES:
            for begin in (0, 1, house.calendar().turn() - 1):
                for sort in SORTS:
                    singles = [(begin + more, "psalm", sort) for more in range(5)]
                    self.against_a_walk(house, singles, 3 * house.calendar().turn(), ["psalm"])

    def test_a_years_first_and_last_day(self):
        for house in HOUSES + small_houses(15):
            calendar = house.calendar()
            for row in house.rows():
                name = row.told()[1]
                for year in range(len(calendar.years()) + 1):
                    for day in {calendar.first(year), calendar.first(year + 1) - 1}:
                        for sort in SORTS:
                            self.against_a_walk(house, [(day, name, sort)], calendar.first(year + 2), [name])


class ByHand(unittest.TestCase):
    def test_a_day_put_off(self):
        diary = diary_with(SMALL, [(0, "psalm", "off")])
        self.assertEqual(diary.sort_on("psalm", 0), ("off", ""))
        self.assertEqual([diary.state("psalm", day) for day in range(6)], [(0, 0), (1, 1), (2, 2), (3, 3), (4, 2), (5, 1)])
        self.assertEqual([diary.reads("psalm", day) for day in range(6)],
                         [[], [], [], [(0, 1, 0, ""), (0, 2, 1, "lent")], [(1, 0, 2, "lent"), (1, 1, 3, "")],
                          [(1, 2, 4, ""), (2, 0, 5, "")]])
        self.assertEqual([diary.back("psalm", day) for day in (0, 5)], [5, 5])

    def test_a_feasts_day_put_free_or_to_rest(self):
        diary = diary_with(SMALL, [(1, "psalm", "free"), (2, "psalm", "rest")])
        self.assertEqual([diary.sort_on("psalm", day) for day in range(4)],
                         [("free", ""), ("free", ""), ("rest", ""), ("free", "")])
        self.assertEqual([diary.state("psalm", day) for day in range(5)], [(0, 0), (1, 0), (2, 0), (2, 0), (3, 0)])
        self.assertEqual(diary.reads("psalm", 1), [(0, 2, 1, "")])

    def test_the_feast_of_an_own_day_that_was_put(self):
        # day 1 is put to what it is: the same is read, but its feast is told no more
        diary = diary_with(SMALL, [(1, "psalm", "off")])
        self.assertEqual(diary.reads("psalm", 3), [(0, 2, 1, ""), (1, 0, 2, "lent")])
        self.assertEqual(reads(SMALL, "psalm", 3), [(0, 2, 1, "lent"), (1, 0, 2, "lent")])

    def test_a_yearly_row(self):
        diary = diary_with(SMALL, [(4, "lesson", "off"), (5, "lesson", "off")])
        # what is owed at a year's end is left
        self.assertEqual([diary.state("lesson", day) for day in range(10)],
                         [(0, 0), (1, 0), (1, 0), (1, 0), (2, 0), (0, 0), (1, 1), (1, 1), (1, 1), (0, 0)])
        self.assertEqual(diary.reads("lesson", 8), [(1, 0, 5, "")])
        self.assertEqual([diary.back("lesson", day) for day in (3, 4, 5, 9)], [3, 9, 9, 9])

    def test_a_year_is_begun_with_nothing_behind_a_single_day_at_the_end_of_another(self):
        # the one piece comes due on each year's first day and is never read
        house = House(Calendar([3]), [Feast("lent", 0, 3, None, [("lesson", "off")])], [Yearly("lesson", 1, 1)])
        for sort in ("off", "rest"):
            diary = diary_with(house, [(2, "lesson", sort), (3 * FAR + 2, "lesson", sort)])
            for day in (0, 2, 3, 5, 3 * FAR + 2, 3 * FAR + 3):
                self.assertIsNone(diary.back("lesson", day))
        diary = diary_with(house, [(2, "lesson", "free"), (5, "lesson", "off"), (9, "lesson", "rest")])
        self.assertEqual([diary.back("lesson", day) for day in (0, 2, 3, 5, 9, 10)], [2, 2, 9, 9, 9, None])

    def test_a_row_that_never_wakes(self):
        diary = diary_with(ASLEEP, [(3, "psalm", "off"), (FAR, "psalm", "off"), (FAR + 9, "psalm", "free"), (6, "lesson", "free")])
        self.assertEqual([diary.state("psalm", day) for day in (3, 4, FAR, FAR + 1, FAR + 9, FAR + 10, 9 * FAR)],
                         [(0, 0), (1, 1), (1, 1), (2, 2), (2, 2), (3, 1), (3, 1)])
        self.assertEqual(diary.reads("psalm", FAR + 9), [(0, 1, 3, ""), (0, 2, FAR, "")])
        self.assertEqual([diary.back("psalm", day) for day in (0, 2, 3, FAR + 9, 10 * FAR)], [0, 2, None, None, None])
        self.assertEqual(diary.reads("lesson", 6), [(1, 0, 6, "")])
        self.assertEqual([diary.state("lesson", day) for day in (6, 7, 8)], [(0, 0), (1, 0), (0, 0)])

    def test_what_the_turns_can_never_take_away(self):
        # as tight as may be: one day off more is owed for ever, or until a day of rest lets it be read
        house = TIGHT[0]
        diary = diary_with(house, [(1, "psalm", "off")])
        self.assertEqual([diary.state("psalm", day) for day in (2, 3, 4, 2 * FAR, 2 * FAR + 1)],
                         [(2, 2), (3, 3), (4, 2), (2 * FAR, 2), (2 * FAR + 1, 3)])
        self.assertEqual([diary.back("psalm", day) for day in (0, 1, 2, FAR)], [None, None, None, None])
        diary.put("psalm", 10 ** 30, "rest")
        self.assertEqual(diary.back("psalm", 0), None)
        diary.put("psalm", 10 ** 30 + 2, "rest")
        self.assertEqual([diary.back("psalm", day) for day in (0, 10 ** 30 + 2)], [10 ** 30 + 3, 10 ** 30 + 3])
        self.assertEqual(diary.back("psalm", 10 ** 30 + 4), 10 ** 30 + 5)
        self.assertEqual(diary.state("psalm", 10 ** 30 + 4), (10 ** 30 + 2, 0))

    def test_what_the_turns_take_away_slowly(self):
        # 199 days off and 201 free ones that read two: each turn takes away just 2
        puts = [("psalm", "off")]
        feasts = [Feast(name, 40 * place, 40, None, puts) for place, name in enumerate(("a", "b", "c", "d"))]
        feasts.append(Feast("e", 160, 39, None, puts))
        house = House(Calendar([400]), feasts, [Going("psalm", 10 ** 6, 2)])
        singles = [(200 + 2 * more, "psalm", "off") for more in range(20)]
        diary = diary_with(house, singles)
        walked = Walked(house, 30, singles)
        clear = [day for day in range(walked.days) if walked.steps["psalm"][day][1][1] == 0]
        self.assertEqual([diary.back("psalm", day) for day in (0, 500, 8000)],
                         [min(found for found in clear if found >= day) for day in (0, 500, 8000)])
        self.assertGreater(diary.back("psalm", 0), 7000)
        for day in range(0, walked.days, 37):
            self.assertEqual(diary.state("psalm", day), walked.steps["psalm"][day][0])


def far_singles(chance, house, count, figures):
    """Single days of up to so many figures, some of them beside each other."""
    found = {}
    while len(found) < count:
        day = chance.randrange(10 ** chance.randint(1, figures))
        for more in range(chance.randint(1, 3)):
            if len(found) < count:
                found[day + more, chance.choice(house.rows()).told()[1]] = chance.choice(SORTS)
    return [(day, name, sort) for (day, name), sort in found.items()]


class Far(unittest.TestCase):
    def cases(self, count, singles):
        chance = random.Random(51)
        for house in HOUSES + small_houses(count):
            for again in range(3):
                told = far_singles(chance, house, singles, 60)
                days = [max(0, day + chance.randint(-3, 3)) for day, name, sort in told]
                days += [day + chance.randrange(10 ** chance.randint(1, 60)) for day in days[:4]] + [10 ** 60 - 1]
                yield house, told, diary_with(house, told), days

    def test_one_day_more_is_what_the_step_makes(self):
        for house, singles, diary, days in self.cases(20, 12):
            for row in house.rows():
                name = row.told()[1]
                for day in days:
                    behind, numbers = row.step(diary.state(name, day), diary.sort_on(name, day)[0])
                    begins_anew = row.told()[0] == "yearly" and house.calendar().at(day + 1)[1] == 0
                    self.assertEqual(diary.state(name, day + 1), (0, 0) if begins_anew else behind)
                    self.far_reads(house, diary, row, day, numbers)

    def far_reads(self, house, diary, row, day, numbers):
        name, told = row.told()[1], diary.reads(row.told()[1], day)
        if row.told()[0] == "going":
            expected = [((row.told()[4] + number) // row.told()[2], (row.told()[4] + number) % row.told()[2]) for number in numbers]
        else:
            expected = [(house.calendar().at(day)[0], number) for number in numbers]
        self.assertEqual([(lap, piece) for lap, piece, own, feast in told], expected)
        for number, (lap, piece, own, feast) in zip(numbers, told):
            # the own day is the one on which the number comes due
            self.assertEqual(diary.state(name, own)[0], number)
            self.assertNotEqual(diary.sort_on(name, own)[0], "rest")
            self.assertEqual(feast, diary.sort_on(name, own)[1])
            self.assertLessEqual(own, day)

    def test_between_single_days_as_the_house_carries(self):
        for house, singles, diary, days in self.cases(20, 8):
            for row in house.rows():
                name = row.told()[1]
                own = sorted([0] + [day + 1 for day, word, sort in singles if word == name])
                for first, end in zip(own, own[1:] + [own[-1] + 10 ** 59]):
                    for day in (first, (first + end) // 2, end - 1):
                        if day >= first:
                            self.assertEqual(diary.state(name, day), carried(house, name, first, diary.state(name, first), day))

    def test_sorts(self):
        for house, singles, diary, days in self.cases(10, 20):
            put = {(day, name): sort for day, name, sort in singles}
            for row in house.rows():
                name = row.told()[1]
                for day in days + [day for day, word, sort in singles]:
                    expected = (put[day, name], "") if (day, name) in put else house.sort_on(name, day)
                    self.assertEqual(diary.sort_on(name, day), expected)

    def test_back(self):
        for house, singles, diary, days in self.cases(20, 10):
            turn = house.calendar().turn()
            for row in house.rows():
                name = row.told()[1]
                for day in days:
                    found = diary.back(name, day)
                    for more in range(2 * turn + 2):
                        if found is not None and day + more > found:
                            break
                        owed = row.step(diary.state(name, day + more), diary.sort_on(name, day + more)[0])[0][1]
                        self.assertEqual(owed == 0, day + more == found)
                    if found is not None:
                        behind = row.step(diary.state(name, found), diary.sort_on(name, found)[0])[0]
                        self.assertEqual(behind[1], 0)
                        self.assertEqual(diary.back(name, found), found)
                        self.assertEqual(diary.back(name, (day + found) // 2), found)

    def test_ahead_of_all_single_days_as_the_house(self):
        for house in HOUSES:
            diary = diary_with(house, [(10 ** 59 + more, "psalm", "off") for more in range(20)])
            for day in (0, 5, 33, 10 ** 40, 10 ** 59):
                self.assertEqual(diary.state("psalm", day), state(house, "psalm", day))
            for day in (0, 5, 33, 10 ** 40):
                self.assertEqual(diary.back("psalm", day), back(house, "psalm", day))

    def test_a_year_far_away_that_alone_is_read_to_its_end(self):
        # hymn is off on all days and owes behind each step
        year = 8 * 10 ** 40
        diary = diary_with(ASLEEP, [(year + 3, "hymn", "free"), (year + 8, "hymn", "rest")])
        self.assertEqual([diary.back("hymn", day) for day in (0, 8 * 10 ** 30 + 1, year + 3, year + 4, year + 8)],
                         [year + 3, year + 3, year + 3, year + 4, year + 8])
        self.assertIsNone(diary.back("hymn", year + 9))


class Great(unittest.TestCase):
    def test_without_a_long_wait(self):
        begun = time.monotonic()
        house = great_house()
        chance = random.Random(61)
        near = random_singles(chance, house, 20, 16000)
        diary, walked = diary_with(house, near), Walked(house, 3, near)
        for name in ROW_NAMES:
            for day in range(0, 24000, 331):
                self.assertEqual(diary.state(name, day), walked.steps[name][day][0])
                self.assertEqual(diary.reads(name, day), walked.reads(name, day))
        far = far_singles(chance, house, 20, 60)
        diary = diary_with(house, far)
        for row in house.rows():
            name = row.told()[1]
            for day in [day + more for day, word, sort in far for more in (0, 1, 399)]:
                behind = row.step(diary.state(name, day), diary.sort_on(name, day)[0])[0]
                begins_anew = row.told()[0] == "yearly" and (day + 1) % 400 == 0
                self.assertEqual(diary.state(name, day + 1), (0, 0) if begins_anew else behind)
                self.assertLess(diary.back(name, day), day + 8000)
        self.assertLess(time.monotonic() - begun, 60)


if __name__ == "__main__":
    unittest.main()
