"""[7] Far days, and what [0] says of them."""

import inspect
import random
import time
import unittest

from readround import far
from readround.calendars import Calendar
from readround.errors import BadNumber, NoDay, NoRow
from readround.far import after, carried, state
from readround.feasts import Feast
from readround.houses import House
from readround.rows import Going, Yearly
from tests import plain
from tests.refusals import Refusing
from tests.sample_houses import ASLEEP, FAR, ROW_NAMES, TIGHT, Walked, great_house, small_houses

# psalm: off on the days 1 and 2 of each year; lesson: at rest then
SMALL = House(Calendar([5, 4]), [Feast("lent", 1, 2, None, [("psalm", "off"), ("lesson", "rest")])],
              [Going("psalm", 3, 2, 1), Yearly("lesson", 2, 1), Yearly("hymn", 9, 1)])


def far_pair(walked, name, pair, turns):
    """The state of a day of the second turn on, so many turns later, by what comes again in each turn."""
    due, owed = pair
    if walked.house.row(name).told()[0] == "yearly":
        return due, owed
    return due + turns * walked.due_in_turn(name), owed


class State(unittest.TestCase):
    def test_by_hand(self):
        self.assertEqual([state(SMALL, "psalm", day) for day in range(12)],
                         [(0, 0), (1, 0), (2, 1), (3, 2), (4, 1), (5, 0), (6, 0), (7, 1), (8, 2), (9, 1), (10, 0), (11, 1)])
        self.assertEqual([state(SMALL, "lesson", day) for day in range(10)],
                         [(0, 0), (1, 0), (1, 0), (1, 0), (2, 0), (0, 0), (1, 0), (1, 0), (1, 0), (0, 0)])
        self.assertEqual([state(SMALL, "hymn", day) for day in range(10)],
                         [(0, 0), (1, 0), (2, 0), (3, 0), (4, 0), (0, 0), (1, 0), (2, 0), (3, 0), (0, 0)])

    def test_what_is_owed_goes_over_into_the_next_turn(self):
        house = House(Calendar([2]), [Feast("lent", 1, 1, None, [("psalm", "off")])], [Going("psalm", 3, 2)])
        self.assertEqual([state(house, "psalm", day) for day in range(5)], [(0, 0), (1, 0), (2, 1), (3, 0), (4, 1)])
        self.assertEqual(state(house, "psalm", 2 * FAR), (2 * FAR, 1))
        self.assertEqual(state(house, "psalm", 2 * FAR + 1), (2 * FAR + 1, 0))

    def test_against_a_walk(self):
        for house in small_houses(150):
            walked = Walked(house, 4)
            for name, steps in walked.steps.items():
                for day in range(walked.days):
                    ahead, behind, read = steps[day]
                    self.assertEqual(state(house, name, day), ahead)
                    self.assertEqual(after(house, name, day), behind)

    def test_against_a_walk_far_away(self):
        for house in small_houses(100):
            walked = Walked(house, 3)
            for name, steps in walked.steps.items():
                # the walk itself shows that each turn but the first begins alike
                self.assertEqual(steps[walked.turn][0][1], steps[2 * walked.turn][0][1])
                for day in range(walked.turn, 2 * walked.turn):
                    for turns in (FAR, 10 ** 30, 3):
                        later = day + turns * walked.turn
                        ahead, behind, read = steps[day]
                        self.assertEqual(state(house, name, later), far_pair(walked, name, ahead, turns))
                        self.assertEqual(after(house, name, later), far_pair(walked, name, behind, turns))

    def test_one_day_more_is_what_the_step_makes(self):
        chance = random.Random(7)
        for house in small_houses(60):
            for row in house.rows():
                name = row.told()[1]
                for far_day in [chance.randrange(10 ** chance.randint(1, 60)) for again in range(20)]:
                    behind = row.step(state(house, name, far_day), house.sort_on(name, far_day)[0])[0]
                    self.assertEqual(after(house, name, far_day), behind)
                    begins_anew = row.told()[0] == "yearly" and house.calendar().at(far_day + 1)[1] == 0
                    self.assertEqual(state(house, name, far_day + 1), (0, 0) if begins_anew else behind)

    def test_after_at_a_years_last_day(self):
        self.assertEqual([after(SMALL, "lesson", day) for day in (4, 8)], [(2, 0), (2, 0)])
        self.assertEqual([after(SMALL, "hymn", day) for day in (4, 8)], [(5, 0), (4, 0)])
        self.assertEqual([after(SMALL, "hymn", day + 9 * FAR) for day in (4, 8)], [(5, 0), (4, 0)])
        self.assertEqual([state(SMALL, "hymn", day + 9 * FAR) for day in (5, 9)], [(0, 0), (0, 0)])
        # a year of one day
        house = House(Calendar([1]), [], [Yearly("hymn", 3, 1), Going("psalm", 3, 1)])
        for day in (0, 1, FAR):
            self.assertEqual((state(house, "hymn", day), after(house, "hymn", day)), ((0, 0), (1, 0)))
            self.assertEqual((state(house, "psalm", day), after(house, "psalm", day)), ((day, 0), (day + 1, 0)))

    def test_rows_that_never_wake(self):
        for day in (0, 1, 7, 8, FAR):
            for name in ("psalm", "lesson"):
                self.assertEqual((state(ASLEEP, name, day), after(ASLEEP, name, day)), ((0, 0), (0, 0)))
        self.assertEqual([state(ASLEEP, "hymn", 8 * FAR + day) for day in range(9)],
                         [(0, 0), (1, 1), (2, 2), (3, 3), (4, 4), (0, 0), (1, 1), (2, 2), (0, 0)])
        self.assertEqual(after(ASLEEP, "hymn", 8 * FAR + 4), (4, 4))

    def test_kinds(self):
        for ask in (state, after):
            for name in ("psalm", "lesson"):
                for day in (0, 1, FAR):
                    self.assertIsInstance(ask(SMALL, name, day), tuple)


class Carried(unittest.TestCase):
    def by_walk(self, house, walked, name, day, pair, count):
        """The states at the beginning of day and of the count days behind it."""
        row = house.row(name).told()
        found = [pair]
        for later in range(day, day + count):
            mark = walked.marks[name][later % walked.turn]
            pair = plain.step(row, pair, mark[0])[0]
            if row[0] == "yearly" and walked.dates[(later + 1) % walked.turn][1] == 0:
                pair = (0, 0)
            found.append(pair)
        return found

    def pairs_of(self, row):
        pairs = [(0, 0), (1, 0), (1, 1), (2, 1), (5, 3), (13, 13), (30, 22), (10 ** 6, 7)]
        if row.told()[0] == "yearly":
            pairs = [(due, owed) for due, owed in pairs if due <= row.told()[2]] + [(row.told()[2], row.told()[2])]
        return pairs

    def test_against_a_walk(self):
        chance = random.Random(3)
        for house in small_houses(60):
            walked = Walked(house, 1)
            for row in house.rows():
                name = row.told()[1]
                for pair in self.pairs_of(row):
                    day = chance.randrange(2 * walked.turn)
                    states = self.by_walk(house, walked, name, day, pair, 4 * walked.turn + 2)
                    for more, expected in enumerate(states):
                        self.assertEqual(carried(house, name, day, pair, day + more), expected, (row.told(), day, pair))

    def test_every_day_and_end_of_some_turns(self):
        for house in (SMALL,) + TIGHT:
            walked = Walked(house, 1)
            for row in house.rows():
                name = row.told()[1]
                for pair in ((0, 0), (2, 2), (2, 1)):
                    for day in range(2 * walked.turn + 1):
                        states = self.by_walk(house, walked, name, day, pair, 3 * walked.turn)
                        told = [carried(house, name, day, pair, day + more) for more in range(3 * walked.turn + 1)]
                        self.assertEqual(told, states)

    def test_the_same_far_away(self):
        for house in small_houses(40):
            walked = Walked(house, 1)
            for row in house.rows():
                name = row.told()[1]
                for pair in self.pairs_of(row):
                    for day, more in ((0, 1), (3, walked.turn), (walked.turn - 1, 2 * walked.turn + 3)):
                        near = carried(house, name, day, pair, day + more)
                        later = day + FAR * walked.turn
                        self.assertEqual(carried(house, name, later, pair, later + more), near)

    def test_from_the_state_that_is_to_the_state_that_will_be(self):
        chance = random.Random(5)
        for house in small_houses(60):
            for row in house.rows():
                name = row.told()[1]
                for again in range(10):
                    day, end = sorted(chance.randrange(10 ** chance.randint(1, 60)) for both in range(2))
                    self.assertEqual(carried(house, name, day, state(house, name, day), end), state(house, name, end))

    def test_very_much_owed(self):
        for house in small_houses(60):
            walked = Walked(house, 1)
            for row in house.rows():
                if row.told()[0] == "going":
                    self.very_much_owed(house, walked, row)

    def very_much_owed(self, house, walked, row):
        name, most = row.told()[1], row.told()[3]
        sorts = [sort for sort, feast in walked.marks[name]]
        due = walked.turn - sorts.count("rest")
        room = most * sorts.count("free")
        spare = room - due
        for owed in (10 ** 12, FAR, 7 * 10 ** 59 + 1):
            pair = (owed + 3, owed)
            for turns in (1, 1000, 10 ** 9):
                told = carried(house, name, walked.turn, pair, walked.turn * (1 + turns))
                self.assertEqual(told, (owed + 3 + turns * due, owed - turns * spare))
            if spare:
                # while more than room is owed no free day is left idle; the days behind that are walked
                turns = (owed - room) // spare
                left = carried(house, name, 0, pair, turns * walked.turn)
                self.assertEqual(left, (owed + 3 + turns * due, owed - turns * spare))
                states = self.by_walk(house, walked, name, 0, left, (room // spare + 3) * walked.turn)
                for more, expected in enumerate(states):
                    self.assertEqual(carried(house, name, 0, pair, turns * walked.turn + more), expected)
                end = 10 * owed * walked.turn + 5
                told = carried(house, name, 0, pair, end)
                self.assertEqual(told[0], owed + 3 + state(house, name, end)[0])
                self.assertEqual(told[1], state(house, name, end)[1])

    def test_one_day_more_is_what_the_step_makes(self):
        chance = random.Random(11)
        for house in small_houses(60):
            for row in house.rows():
                if row.told()[0] == "going":
                    name = row.told()[1]
                    for again in range(10):
                        due, day, end = sorted(chance.randrange(10 ** chance.randint(1, 60)) for each in range(3))
                        pair = (due, chance.randint(0, due))
                        told = carried(house, name, day, pair, end)
                        behind = row.step(told, house.sort_on(name, end)[0])[0]
                        self.assertEqual(carried(house, name, day, pair, end + 1), behind)

    def test_end_is_day(self):
        for day in (0, 1, 8, 9, FAR):
            for pair in ((0, 0), (7, 7), (FAR, 0), (FAR, FAR)):
                self.assertEqual(carried(SMALL, "psalm", day, pair, day), pair)
            for pair in ((0, 0), (1, 1), (2, 2), (2, 0)):
                self.assertEqual(carried(SMALL, "lesson", day, pair, day), pair)

    def test_a_yearly_row_is_begun_anew(self):
        # year 1 begins on day 5: nothing is left there of a pair taken ahead of it, but of one taken on it
        self.assertEqual(carried(SMALL, "hymn", 4, (8, 8), 5), (0, 0))
        self.assertEqual(carried(SMALL, "hymn", 5, (8, 8), 5), (8, 8))
        self.assertEqual(carried(SMALL, "hymn", 5, (8, 8), 6), (9, 8))
        self.assertEqual(carried(SMALL, "hymn", 5, (8, 8), 8), (9, 6))
        self.assertEqual(carried(SMALL, "hymn", 5, (8, 8), 9), (0, 0))
        self.assertEqual(carried(SMALL, "hymn", 5, (8, 8), 10), (1, 0))
        self.assertEqual(carried(SMALL, "hymn", 0, (9, 9), 9 * FAR + 2), (2, 0))
        self.assertEqual(carried(SMALL, "hymn", 9 * FAR, (9, 9), 9 * FAR + 2), (9, 7))

    def test_a_row_that_never_wakes(self):
        for day, end in ((0, 1), (3, 17), (5, FAR)):
            self.assertEqual(carried(ASLEEP, "psalm", day, (FAR, FAR - 1), end), (FAR, FAR - 1))
        self.assertEqual(carried(ASLEEP, "lesson", 1, (2, 1), 4), (2, 1))
        self.assertEqual(carried(ASLEEP, "lesson", 1, (2, 1), 5), (0, 0))

    def test_kinds(self):
        for end in (3, 4, 30, FAR):
            self.assertIsInstance(carried(SMALL, "psalm", 3, (2, 1), end), tuple)
            self.assertIsInstance(carried(SMALL, "lesson", 3, (2, 1), end), tuple)


class Refused(Refusing):
    def test_no_row_and_no_day(self):
        for ask in (state, after):
            for below in (-1, -9, -FAR):
                self.refuses(NoDay, ask, SMALL, "psalm", below)
                self.refuses(NoDay, ask, SMALL, "lesson", below)
                self.refuses(NoRow, ask, SMALL, "lent", below)
            for name in ("lent", "", "psal"):
                self.refuses(NoRow, ask, SMALL, name, 0)

    def test_carried_in_order(self):
        no_state = (1, 2)
        self.refuses(NoRow, carried, SMALL, "lent", -1, no_state, -2)
        self.refuses(NoRow, carried, SMALL, "lent", 3, (0, 0), 4)
        self.refuses(NoDay, carried, SMALL, "psalm", -1, no_state, -2)
        self.refuses(NoDay, carried, SMALL, "psalm", -1, (0, 0), 4)
        self.refuses(NoDay, carried, SMALL, "lesson", -FAR, (0, 0), FAR)
        self.refuses(BadNumber, carried, SMALL, "psalm", 3, no_state, 2)

    def test_an_end_ahead_of_the_day(self):
        for day, end in ((1, 0), (0, -1), (9, 8), (FAR, FAR - 1), (FAR, 0), (5, -FAR)):
            self.refuses(BadNumber, carried, SMALL, "psalm", day, (0, 0), end)
            self.refuses(BadNumber, carried, SMALL, "lesson", day, (0, 0), end)

    def test_pairs_that_are_no_state(self):
        for pair in ((0, 1), (0, -1), (3, -1), (3, 4), (-1, -1), (-1, 0), (FAR, FAR + 1)):
            for end in (3, 4, 100, FAR):
                self.refuses(BadNumber, carried, SMALL, "psalm", 3, pair, end)
                self.refuses(BadNumber, carried, SMALL, "lesson", 3, pair, end)
        for end in (3, 4, 100):
            self.refuses(BadNumber, carried, SMALL, "lesson", 3, (3, 0), end)
            self.refuses(BadNumber, carried, SMALL, "hymn", 3, (10, 10), end)
        self.assertEqual(carried(SMALL, "psalm", 3, (4, 0), 3), (4, 0))
        self.assertEqual(carried(SMALL, "hymn", 3, (9, 9), 3), (9, 9))

    def test_nothing_is_changed(self):
        house = House(Calendar([5, 4]), [], [Going("psalm", 3, 2)])
        told = carried(house, "psalm", 2, (9, 9), 30)
        self.refuses(BadNumber, carried, house, "psalm", 2, (9, 10), 30)
        self.assertEqual(carried(house, "psalm", 2, (9, 9), 30), told)
        self.assertEqual([state(house, "psalm", 7), state(house, "psalm", 7)], [(7, 0), (7, 0)])

    def test_the_interface(self):
        told = {"state": ["house", "name", "day"], "after": ["house", "name", "day"],
                "carried": ["house", "name", "day", "pair", "end"]}
        for name, names in told.items():
            with self.subTest(name):
                self.assertEqual(list(inspect.signature(getattr(far, name)).parameters), names)


class Great(unittest.TestCase):
    def test_without_a_long_wait(self):
        begun = time.monotonic()
        house = great_house()
        walked = Walked(house, 3)
        for name in ROW_NAMES:
            for day in range(0, 24000, 7):
                self.assertEqual(state(house, name, day), walked.steps[name][day][0])
                if day >= 8000:
                    later = day + FAR * 8000
                    expected = far_pair(walked, name, walked.steps[name][day][0], FAR)
                    self.assertEqual(state(house, name, later), expected)
                    self.assertEqual(carried(house, name, day, walked.steps[name][day][0], later), expected)
        for owed in (10 ** 9, FAR, 10 * FAR):
            for end in (10 ** 7, 10 ** 30, FAR):
                told = carried(house, "psalm", 77, (owed, owed), end)
                behind = house.row("psalm").step(told, house.sort_on("psalm", end)[0])[0]
                self.assertEqual(carried(house, "psalm", 77, (owed, owed), end + 1), behind)
        self.assertLess(time.monotonic() - begun, 40)


if __name__ == "__main__":
    unittest.main()
