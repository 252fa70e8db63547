"""[8] Readings as far as reads, own_day and read_day go, sheet of [12], and what [0] says of them."""

import inspect
import random
import time
import unittest

from readround import reading
from readround.calendars import Calendar
from readround.errors import NoDay, NoPiece, NoRow
from readround.far import after, state
from readround.feasts import Feast
from readround.houses import House
from readround.reading import own_day, read_day, reads, sheet
from readround.rows import Going, Yearly
from tests.refusals import Refusing
from tests.sample_houses import ASLEEP, FAR, ROW_NAMES, TIGHT, Walked, great_house, small_houses

# psalm: off on the days 1 and 2 of each year; lesson: at rest then
SMALL = House(Calendar([5, 4]), [Feast("lent", 1, 2, None, [("psalm", "off"), ("lesson", "rest")])],
              [Going("psalm", 3, 2, 1), Yearly("lesson", 2, 1), Yearly("hymn", 9, 1)])


def far_reading(walked, name, told, turns):
    """A reading of the second turn on, so many turns later, by what comes again in each turn."""
    lap, piece, own, feast = told
    row = walked.house.row(name).told()
    if row[0] == "yearly":
        return lap + turns * len(walked.years), piece, own + turns * walked.turn, feast
    number = lap * row[2] + piece + turns * walked.due_in_turn(name)
    return number // row[2], number % row[2], own + turns * walked.turn, feast


class Reads(unittest.TestCase):
    def test_by_hand(self):
        told = [reads(SMALL, "psalm", day) for day in range(6)]
        self.assertEqual(told, [[(0, 1, 0, "")], [], [], [(0, 2, 1, "lent"), (1, 0, 2, "lent")],
                                [(1, 1, 3, ""), (1, 2, 4, "")], [(2, 0, 5, "")]])
        told = [reads(SMALL, "lesson", day) for day in range(9)]
        self.assertEqual(told, [[(0, 0, 0, "")], [], [], [(0, 1, 3, "")], [],
                                [(1, 0, 5, "")], [], [], [(1, 1, 8, "")]])
        self.assertEqual(reads(SMALL, "hymn", 8), [(1, 3, 8, "")])

    def test_the_feast_is_the_one_of_the_own_day(self):
        feasts = [Feast("lent", 0, 1, None, [("psalm", "off")]), Feast("paul", 0, 2, None, [("psalm", "off")])]
        house = House(Calendar([4]), feasts, [Going("psalm", 9, 3)])
        self.assertEqual(reads(house, "psalm", 2), [(0, 0, 0, "lent"), (0, 1, 1, "paul"), (0, 2, 2, "")])

    def test_against_a_walk(self):
        for house in small_houses(150):
            walked = Walked(house, 4)
            for name in walked.steps:
                for day in range(walked.days):
                    self.assertEqual(reads(house, name, day), walked.reads(name, day))

    def test_against_a_walk_far_away(self):
        for house in small_houses(80):
            walked = Walked(house, 3)
            for name in walked.steps:
                for day in range(2 * walked.turn, 3 * walked.turn):
                    for turns in (FAR, 10 ** 30):
                        expected = [far_reading(walked, name, told, turns) for told in walked.reads(name, day)]
                        self.assertEqual(reads(house, name, day + turns * walked.turn), expected)

    def test_kinds(self):
        for name in ("psalm", "lesson"):
            for day in (0, 1, 3, 9 * FAR + 3):
                told = reads(SMALL, name, day)
                self.assertIsInstance(told, list)
                for one in told:
                    self.assertIsInstance(one, tuple)
                    self.assertIsInstance(one[3], str)

    def test_nothing_hangs_on_the_list_told(self):
        told = reads(SMALL, "psalm", 3)
        told.clear()
        self.assertEqual(reads(SMALL, "psalm", 3), [(0, 2, 1, "lent"), (1, 0, 2, "lent")])


class DaysOfPieces(unittest.TestCase):
    def test_by_hand(self):
        self.assertEqual([own_day(SMALL, "psalm", 0, piece) for piece in (1, 2)], [0, 1])
        self.assertEqual([own_day(SMALL, "psalm", 1, piece) for piece in range(3)], [2, 3, 4])
        self.assertEqual([read_day(SMALL, "psalm", 0, piece) for piece in (1, 2)], [0, 3])
        self.assertEqual([read_day(SMALL, "psalm", 1, piece) for piece in range(3)], [3, 4, 4])
        self.assertEqual([own_day(SMALL, "lesson", 1, piece) for piece in range(2)], [5, 8])
        self.assertEqual([read_day(SMALL, "lesson", 1, piece) for piece in range(2)], [5, 8])
        self.assertEqual([read_day(SMALL, "hymn", 0, piece) for piece in (0, 4, 5, 8)], [0, 4, None, None])
        self.assertEqual([own_day(SMALL, "hymn", 1, piece) for piece in (0, 3, 4, 8)], [5, 8, None, None])

    def test_against_a_walk(self):
        for house in small_houses(150):
            walked = Walked(house, 5)
            for row in house.rows():
                if row.told()[0] == "going":
                    self.going_against_a_walk(house, walked, row)
                else:
                    self.yearly_against_a_walk(house, walked, row)

    def going_against_a_walk(self, house, walked, row):
        kind, name, many, most, begin = row.told()
        owns = [day for day in range(walked.days) if walked.marks[name][day][0] != "rest"]
        read_on = {}
        for day in range(walked.days):
            for lap, piece, own in walked.steps[name][day][2]:
                read_on[lap, piece] = day
        # what comes due in the last two turns of the walk may be read behind it
        for number, own in enumerate(owns):
            lap, piece = divmod(begin + number, many)
            self.assertEqual(own_day(house, name, lap, piece), own)
            if own < walked.days - 2 * walked.turn or (lap, piece) in read_on:
                self.assertEqual(read_day(house, name, lap, piece), read_on[lap, piece])

    def yearly_against_a_walk(self, house, walked, row):
        kind, name, many, most = row.told()
        found = {}
        for day in range(walked.days):
            for lap, piece, own in walked.steps[name][day][2]:
                found[lap, piece] = (own, day)
        dues = {}
        for day, (year, place) in enumerate(walked.dates):
            ahead, behind, read = walked.steps[name][day]
            if behind[0] > ahead[0]:
                dues[year, ahead[0]] = day
        for lap in range(5 * len(walked.years)):
            for piece in range(many):
                own, day = found.get((lap, piece), (dues.get((lap, piece)), None))
                self.assertEqual(own_day(house, name, lap, piece), own)
                self.assertEqual(read_day(house, name, lap, piece), day)

    def test_far_rounds(self):
        chance = random.Random(13)
        for house in small_houses(80):
            for row in house.rows():
                for again in range(15):
                    lap, piece = chance.randrange(1, 10 ** chance.randint(1, 60)), chance.randrange(row.told()[2])
                    self.far_piece(house, row, lap, piece)

    def far_piece(self, house, row, lap, piece):
        name = row.told()[1]
        own, day = own_day(house, name, lap, piece), read_day(house, name, lap, piece)
        if own is None:
            self.assertIsNone(day)
            return
        number = lap * row.told()[2] + piece - row.told()[4] if row.told()[0] == "going" else piece
        self.assertEqual((state(house, name, own)[0], after(house, name, own)[0]), (number, number + 1))
        if day is not None:
            feast = house.sort_on(name, own)[1]
            self.assertIn((lap, piece, own, feast), reads(house, name, day))
            self.assertTrue(own <= day)

    def test_a_yearly_piece_is_none_just_where_its_year_ends_ahead_of_it(self):
        for house in small_houses(80):
            years = len(house.calendar().years())
            for row in house.rows():
                if row.told()[0] == "yearly":
                    kind, name, many, most = row.told()
                    for lap in [year + FAR * years for year in range(years)]:
                        due, owed = after(house, name, house.calendar().first(lap + 1) - 1)
                        for piece in range(many):
                            self.assertEqual(own_day(house, name, lap, piece) is None, piece >= due)
                            self.assertEqual(read_day(house, name, lap, piece) is None, piece >= due - owed)

    def test_there_and_back(self):
        chance = random.Random(17)
        for house in small_houses(80):
            for row in house.rows():
                name = row.told()[1]
                days = list(range(30)) + [chance.randrange(10 ** chance.randint(1, 60)) for again in range(20)]
                for day in days:
                    for lap, piece, own, feast in reads(house, name, day):
                        self.assertEqual(read_day(house, name, lap, piece), day)
                        self.assertEqual(own_day(house, name, lap, piece), own)

    def test_a_row_with_no_day_that_is_not_rest(self):
        for lap in (0, 1, FAR):
            for ask in (own_day, read_day):
                self.assertIsNone(ask(ASLEEP, "psalm", lap, 2))
                self.assertIsNone(ask(ASLEEP, "lesson", lap, 0))
            # pieces that come due and are never read
            self.assertEqual(own_day(ASLEEP, "hymn", 2 * lap, 3), 8 * lap + 3)
            self.assertIsNone(own_day(ASLEEP, "hymn", 2 * lap + 1, 3))
            self.assertIsNone(read_day(ASLEEP, "hymn", 2 * lap, 0))

    def test_the_longest_rows(self):
        house = House(Calendar([400]), [], [Going("psalm", 10 ** 6, 1, 10 ** 6 - 1), Yearly("lesson", 10 ** 6, 9)])
        self.assertEqual(read_day(house, "psalm", 0, 10 ** 6 - 1), 0)
        self.assertEqual(read_day(house, "psalm", FAR, 5), (FAR - 1) * 10 ** 6 + 6)
        self.assertEqual([own_day(house, "lesson", FAR, piece) for piece in (0, 399, 400, 10 ** 6 - 1)],
                         [400 * FAR, 400 * FAR + 399, None, None])


class Refused(Refusing):
    def test_reads(self):
        for below in (-1, -9, -FAR):
            self.refuses(NoDay, reads, SMALL, "psalm", below)
            self.refuses(NoDay, reads, SMALL, "lesson", below)
            self.refuses(NoRow, reads, SMALL, "lent", below)
            self.refuses(NoDay, sheet, SMALL, below)
        for name in ("lent", "", "psal"):
            self.refuses(NoRow, reads, SMALL, name, 0)

    def test_pieces(self):
        for ask in (own_day, read_day):
            for name, many in (("psalm", 3), ("lesson", 2), ("hymn", 9)):
                for lap in (0, 1, FAR):
                    for piece in (-1, many, many + 1, FAR, -FAR):
                        self.refuses(NoPiece, ask, SMALL, name, lap, piece)
                for lap in (-1, -2, -FAR):
                    for piece in (-1, 0, 1, many):
                        self.refuses(NoPiece, ask, SMALL, name, lap, piece)

    def test_no_row_comes_first(self):
        for ask in (own_day, read_day):
            for lap, piece in ((0, 1), (-1, 1), (0, -1)):
                self.refuses(NoRow, ask, SMALL, "lent", lap, piece)

    def test_pieces_ahead_of_begin(self):
        for begin in (0, 1, 3, 4):
            house = House(Calendar([7]), [], [Going("psalm", 5, 1, begin)])
            for piece in range(5):
                for ask in (own_day, read_day):
                    if piece < begin:
                        self.refuses(NoPiece, ask, house, "psalm", 0, piece)
                    else:
                        self.assertEqual(ask(house, "psalm", 0, piece), piece - begin)
                    self.assertEqual(ask(house, "psalm", 1, piece), piece - begin + 5)

    def test_also_of_a_row_that_never_wakes(self):
        for ask in (own_day, read_day):
            for lap, piece in ((0, 0), (0, -1), (0, 3), (-1, 2)):
                self.refuses(NoPiece, ask, ASLEEP, "psalm", lap, piece)
            for lap, piece in ((0, 2), (0, -1), (-1, 1)):
                self.refuses(NoPiece, ask, ASLEEP, "lesson", lap, piece)

    def test_the_interface(self):
        told = {"reads": ["house", "name", "day"], "own_day": ["house", "name", "lap", "piece"],
                "read_day": ["house", "name", "lap", "piece"], "sheet": ["house", "day"]}
        for name, names in told.items():
            with self.subTest(name):
                self.assertEqual(list(inspect.signature(getattr(reading, name)).parameters), names)


class Sheets(unittest.TestCase):
    def test_by_hand(self):
        self.assertEqual(sheet(SMALL, 0), ([], [("psalm", "free", 0, [(0, 1, 0, "")]), ("lesson", "free", 0, [(0, 0, 0, "")]),
                                                ("hymn", "free", 0, [(0, 0, 0, "")])]))
        self.assertEqual(sheet(SMALL, 2), (["lent"], [("psalm", "off", 2, []), ("lesson", "rest", 0, []),
                                                      ("hymn", "free", 0, [(0, 2, 2, "")])]))
        self.assertEqual(sheet(SMALL, 3)[1][0], ("psalm", "free", 1, [(0, 2, 1, "lent"), (1, 0, 2, "lent")]))

    def test_feasts_in_the_houses_order_also_those_that_put_nothing(self):
        feasts = [Feast("paul", 0, 3), Feast("lent", 0, 2, None, [("psalm", "off")]), Feast("advent", 0, 1)]
        house = House(Calendar([6]), feasts, [Going("psalm", 3, 2)])
        self.assertEqual([sheet(house, day)[0] for day in range(4)],
                         [["paul", "lent", "advent"], ["paul", "lent"], ["paul"], []])

    def test_a_years_last_day(self):
        # what is owed behind the step, ahead of the yearly row's new beginning
        self.assertEqual(sheet(ASLEEP, 4), (["lent"], [("psalm", "rest", 0, []), ("lesson", "rest", 0, []),
                                                       ("hymn", "off", 4, [])]))
        self.assertEqual(sheet(ASLEEP, 8 * FAR + 7)[1][2], ("hymn", "off", 3, []))

    def test_against_a_walk(self):
        for house in small_houses(100):
            walked = Walked(house, 3)
            for day in range(walked.days):
                rows = [(name, walked.marks[name][day][0], walked.steps[name][day][1][1], walked.reads(name, day))
                        for name in walked.steps]
                self.assertEqual(sheet(house, day), (walked.kept(day), rows))

    def test_against_the_other_modules_far_away(self):
        for house in small_houses(60):
            for day in (10 ** 20 + 3, FAR, 10 * FAR - 1):
                names, rows = sheet(house, day)
                self.assertEqual(names, [feast.told()[0] for feast in house.feasts() if feast.keeps(house.calendar(), day)])
                self.assertEqual(rows, [(row.told()[1], house.sort_on(row.told()[1], day)[0],
                                         after(house, row.told()[1], day)[1], reads(house, row.told()[1], day))
                                        for row in house.rows()])

    def test_kinds(self):
        told = sheet(SMALL, 3)
        self.assertIsInstance(told, tuple)
        self.assertIsInstance(told[0], list)
        self.assertIsInstance(told[1], list)
        for row in told[1]:
            self.assertIsInstance(row, tuple)
            self.assertIsInstance(row[3], list)

    def test_nothing_hangs_on_the_lists_told(self):
        names, rows = sheet(SMALL, 3)
        rows[0][3].clear()
        names.append("paul")
        rows.clear()
        self.assertEqual(sheet(SMALL, 3)[0], [])
        self.assertEqual(sheet(SMALL, 3)[1][0], ("psalm", "free", 1, [(0, 2, 1, "lent"), (1, 0, 2, "lent")]))


class Great(unittest.TestCase):
    def test_without_a_long_wait(self):
        begun = time.monotonic()
        house = great_house()
        walked = Walked(house, 2)
        for name in ROW_NAMES:
            for day in range(0, 16000, 5):
                self.assertEqual(reads(house, name, day), walked.reads(name, day))
        for day in range(10 ** 60 - 700, 10 ** 60):
            for name, sort, owed, told in sheet(house, day)[1]:
                for lap, piece, own, feast in told:
                    self.assertEqual((own_day(house, name, lap, piece), read_day(house, name, lap, piece)), (own, day))
        for lap in (0, 1, 10 ** 30, FAR):
            for piece in (10 ** 6 - 1, 777777, 399, 0):
                for name in ("lesson", "gospel", "hymn"):
                    if name != "lesson" or lap or piece >= 5:
                        own, day = own_day(house, name, lap, piece), read_day(house, name, lap, piece)
                        self.assertTrue(day is None or own <= day)
        self.assertLess(time.monotonic() - begun, 40)


class Tight(unittest.TestCase):
    def test_each_piece_is_read_in_time(self):
        for house in TIGHT:
            kind, name, many, most, begin = house.rows()[0].told()
            turn = house.calendar().turn()
            for number in list(range(60)) + list(range(FAR, FAR + 60)):
                lap, piece = divmod(begin + number, many)
                own, day = own_day(house, name, lap, piece), read_day(house, name, lap, piece)
                self.assertTrue(own <= day < own + 2 * turn)
                self.assertIn((lap, piece), [told[:2] for told in reads(house, name, day)])


if __name__ == "__main__":
    unittest.main()
