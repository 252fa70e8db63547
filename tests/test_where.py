"""[8] Readings as far as next_read, times_read, readings, back and most_owed go, and what [0] says of them."""

import inspect
import random
import time
import unittest

from readround import where
from readround.calendars import Calendar
from readround.errors import NoDay, NoPiece, NoRow
from readround.far import after, state
from readround.feasts import Feast
from readround.houses import House
from readround.reading import read_day, reads
from readround.rows import Going, Yearly
from readround.where import back, most_owed, next_read, readings, times_read
from tests.refusals import Refusing
from tests.sample_houses import ASLEEP, FAR, ROW_NAMES, TIGHT, Walked, great_house, small_houses, word_houses

# psalm: off on the days 1 and 2 of each year; lesson: at rest then; hymn is read to its end in no year
SMALL = House(Calendar([5, 4]), [Feast("lent", 1, 2, None, [("psalm", "off"), ("lesson", "rest")])],
              [Going("psalm", 3, 2, 1), Yearly("lesson", 3, 1), Yearly("hymn", 9, 1)])


def pieces_asked(row):
    """The first, the last and some piece between them."""
    many = row.told()[2]
    return sorted({0, many - 1, many // 2})


def far_days(chance, count):
    return [chance.randrange(10 ** chance.randint(1, 60)) for again in range(count)] + [10 ** 60 - 1]


class PieceDays(unittest.TestCase):
    def test_by_hand(self):
        # psalm reads 1 on day 0, 2 and 0 on day 3, 1 and 2 on day 4, 0 on day 5
        self.assertEqual([next_read(SMALL, "psalm", 1, day) for day in (0, 1, 4, 5)], [(0, 0), (4, 1), (4, 1), (8, 2)])
        self.assertEqual([next_read(SMALL, "psalm", 2, day) for day in (0, 3, 4)], [(3, 0), (3, 0), (4, 1)])
        self.assertEqual([next_read(SMALL, "psalm", 0, day) for day in (0, 4)], [(3, 1), (5, 2)])
        self.assertEqual([times_read(SMALL, "psalm", 1, day) for day in range(6)], [0, 1, 1, 1, 1, 2])
        self.assertEqual([times_read(SMALL, "psalm", 0, day) for day in range(7)], [0, 0, 0, 0, 1, 1, 2])

    def test_a_yearly_row_by_hand(self):
        # lesson has three days in even years, two in odd ones
        self.assertEqual([next_read(SMALL, "lesson", 2, day) for day in (0, 4, 5, 8, 9, 14)],
                         [(4, 0), (4, 0), (13, 2), (13, 2), (13, 2), (22, 4)])
        self.assertEqual([next_read(SMALL, "lesson", 1, day) for day in (0, 3, 4, 8, 9)],
                         [(3, 0), (3, 0), (8, 1), (8, 1), (12, 2)])
        self.assertEqual([times_read(SMALL, "lesson", 2, day) for day in (0, 4, 5, 9, 13, 14, 18)], [0, 0, 1, 1, 1, 2, 2])
        self.assertEqual([times_read(SMALL, "lesson", 0, day) for day in (0, 1, 5, 6, 9, 10)], [0, 1, 1, 2, 2, 3])
        self.assertEqual([next_read(SMALL, "hymn", piece, 0) for piece in (0, 4, 5, 8)], [(0, 0), (4, 0), None, None])
        self.assertEqual([times_read(SMALL, "hymn", piece, 9 * FAR) for piece in (0, 4, 5, 8)], [2 * FAR, FAR, 0, 0])

    def test_against_a_walk(self):
        for house in small_houses(80):
            walked = Walked(house, 16)
            for row in house.rows():
                for piece in pieces_asked(row):
                    self.piece_against_a_walk(house, walked, row.told()[1], piece)

    def piece_against_a_walk(self, house, walked, name, piece):
        found = [(day, lap) for day in range(walked.days) for lap, one, own in walked.steps[name][day][2] if one == piece]
        for day in range(2 * walked.turn + 2):
            later = [told for told in found if told[0] >= day]
            # the walk is long enough for each piece that is ever read
            self.assertEqual(next_read(house, name, piece, day), later[0] if later else None)
        for day in range(walked.days):
            self.assertEqual(times_read(house, name, piece, day), len([told for told in found if told[0] < day]))

    def test_each_piece_of_some_rows(self):
        for house in (SMALL, ASLEEP) + TIGHT:
            walked = Walked(house, 40)
            for row in house.rows():
                for piece in range(min(row.told()[2], 9)):
                    self.piece_against_a_walk(house, walked, row.told()[1], piece)

    def test_times_grow_by_what_a_day_reads(self):
        chance = random.Random(5)
        for house in small_houses(60):
            for row in house.rows():
                name = row.told()[1]
                for day in far_days(chance, 12):
                    read = [piece for lap, piece, own, feast in reads(house, name, day)]
                    for piece in pieces_asked(row):
                        grown = times_read(house, name, piece, day + 1) - times_read(house, name, piece, day)
                        self.assertEqual(grown, read.count(piece))

    def test_far_next_readings_are_found_again(self):
        chance = random.Random(9)
        for house in small_houses(60):
            for row in house.rows():
                for day in far_days(chance, 8):
                    for piece in pieces_asked(row):
                        self.far_reading(house, row.told()[1], piece, day)

    def far_reading(self, house, name, piece, day):
        told = next_read(house, name, piece, day)
        if told is None:
            self.assertEqual(times_read(house, name, piece, 10 * FAR), 0)
            return
        found, lap = told
        self.assertGreaterEqual(found, day)
        self.assertEqual(read_day(house, name, lap, piece), found)
        self.assertIn((lap, piece), [one[:2] for one in reads(house, name, found)])
        # none between
        self.assertEqual(times_read(house, name, piece, found), times_read(house, name, piece, day))

    def test_none_just_where_the_piece_is_never_read(self):
        for house in small_houses(80):
            walked = Walked(house, 16)
            for row in house.rows():
                name = row.told()[1]
                read = {piece for day in range(walked.days) for lap, piece, own in walked.steps[name][day][2]}
                for piece in range(row.told()[2]):
                    for day in (0, 3, 10 ** 20, FAR):
                        self.assertEqual(next_read(house, name, piece, day) is None, piece not in read)
        for day in (0, 5, FAR):
            self.assertIsNone(next_read(ASLEEP, "psalm", 1, day))
            self.assertIsNone(next_read(ASLEEP, "lesson", 0, day))
            self.assertIsNone(next_read(ASLEEP, "hymn", 0, day))
            self.assertEqual([times_read(ASLEEP, name, 0, day) for name in ("psalm", "lesson", "hymn")], [0, 0, 0])

    def test_a_piece_that_is_read_in_some_years_only(self):
        house = House(Calendar([3, 5, 2, 4]), [Feast("lent", 0, 1, [3], [("lesson", "rest")])], [Yearly("lesson", 4, 1)])
        # the fourth piece is read in the years 1, 5, 9 .. alone, the third also in the years 0, 3, 4 ..
        for turns in (0, 1, FAR):
            first = 14 * turns
            self.assertEqual(next_read(house, "lesson", 3, first), (first + 6, 4 * turns + 1))
            self.assertEqual(next_read(house, "lesson", 3, first + 6), (first + 6, 4 * turns + 1))
            self.assertEqual(next_read(house, "lesson", 3, first + 7), (first + 20, 4 * turns + 5))
            self.assertEqual(next_read(house, "lesson", 2, first + 6), (first + 13, 4 * turns + 3))
            self.assertEqual([times_read(house, "lesson", 3, first + day) for day in (0, 6, 7, 14)],
                             [turns, turns, turns + 1, turns + 1])
            self.assertEqual([times_read(house, "lesson", 2, first + day) for day in (0, 3, 5, 6, 13, 14)],
                             [3 * turns + more for more in (0, 1, 1, 2, 2, 3)])

    def test_kinds(self):
        for name in ("psalm", "lesson"):
            for day in (0, FAR):
                self.assertIsInstance(next_read(SMALL, name, 0, day), tuple)
                self.assertIsInstance(times_read(SMALL, name, 0, day), int)


class Years(unittest.TestCase):
    def test_by_hand(self):
        self.assertEqual([readings(SMALL, "psalm", year) for year in range(4)], [5, 3, 6, 3])
        self.assertEqual([readings(SMALL, "lesson", year) for year in range(4)], [3, 2, 3, 2])
        self.assertEqual([readings(SMALL, "hymn", 2 * FAR + year) for year in range(2)], [5, 4])
        self.assertEqual([readings(ASLEEP, name, FAR) for name in ("psalm", "lesson", "hymn")], [0, 0, 0])

    def test_against_a_walk(self):
        for house in small_houses(120):
            walked = Walked(house, 4)
            for name, steps in walked.steps.items():
                for year in range(4 * len(walked.years)):
                    count = sum(len(steps[day][2]) for day in range(walked.days) if walked.dates[day][0] == year)
                    self.assertEqual(readings(house, name, year), count)

    def test_far_years_are_those_of_their_days(self):
        chance = random.Random(21)
        for house in small_houses(40):
            calendar = house.calendar()
            for row in house.rows():
                name = row.told()[1]
                for year in [chance.randrange(10 ** chance.randint(1, 60)) for again in range(6)]:
                    days = range(calendar.first(year), calendar.first(year + 1))
                    self.assertEqual(readings(house, name, year), sum([len(reads(house, name, day)) for day in days]))


class Back(unittest.TestCase):
    def test_by_hand(self):
        # psalm owes behind the days 1, 2 and 3, and 6, 7 and 8
        self.assertEqual([back(SMALL, "psalm", day) for day in range(6)], [0, 4, 4, 4, 4, 5])
        self.assertEqual([back(SMALL, "lesson", day) for day in range(10)], list(range(10)))
        self.assertEqual([back(ASLEEP, name, day) for day in (0, 7, FAR) for name in ("psalm", "lesson")],
                         [0, 0, 7, 7, FAR, FAR])

    def test_rows_with_just_as_much_room_as_comes_due(self):
        # five days off, then five free ones that read two each
        self.assertEqual([back(TIGHT[3], "psalm", day) for day in (0, 4, 5, 9, 10, 13, 14, 15)],
                         [0, 4, 14, 14, 14, 14, 14, 24])
        self.assertEqual([back(TIGHT[3], "psalm", 10 * FAR + day) for day in (0, 4, 5)],
                         [10 * FAR + 4, 10 * FAR + 4, 10 * FAR + 14])

    def test_against_a_walk(self):
        for house in small_houses(150):
            walked = Walked(house, 6)
            for name, steps in walked.steps.items():
                clear = [day for day in range(walked.days) if steps[day][1][1] == 0]
                for day in range(3 * walked.turn):
                    later = [found for found in clear if found >= day]
                    self.assertEqual(back(house, name, day), later[0] if later else None)

    def test_against_a_walk_far_away(self):
        for house in small_houses(60):
            walked = Walked(house, 5)
            for name, steps in walked.steps.items():
                clear = [day for day in range(walked.days) if steps[day][1][1] == 0]
                for day in range(walked.turn, 2 * walked.turn):
                    later = [found for found in clear if found >= day]
                    for more in (10 ** 30 * walked.turn, FAR * walked.turn):
                        self.assertEqual(back(house, name, day + more), later[0] + more if later else None)

    def test_a_going_row_of_a_house_always_comes_back(self):
        # as its turn has room for all that comes due in it
        for house in small_houses(150):
            for row in house.rows():
                if row.told()[0] == "going":
                    found = back(house, row.told()[1], FAR)
                    self.assertLess(found, FAR + 2 * house.calendar().turn())
                    self.assertEqual(after(house, row.told()[1], found)[1], 0)

    def test_a_yearly_row_that_owes_behind_each_step(self):
        feasts = [Feast("lent", 0, 2, None, [("lesson", "off"), ("hymn", "off")])]
        house = House(Calendar([3, 6]), feasts, [Yearly("lesson", 9, 1), Yearly("hymn", 3, 1)])
        for day in (0, 1, 2, 3, 8, 9, 9 * FAR + 4):
            self.assertIsNone(back(house, "lesson", day))
        # hymn has come due behind day 2 of a year, and is read to its end in the longer ones
        self.assertEqual([back(house, "hymn", day) for day in (0, 3, 7, 8, 9, 9 * FAR)], [7, 7, 7, 8, 16, 9 * FAR + 7])

    def test_a_yearly_row_at_its_end(self):
        # all three have come due and been read: nothing is owed on days of any sort
        feasts = [Feast("lent", 3, 2, None, [("lesson", "off")]), Feast("paul", 5, 1, None, [("lesson", "rest")])]
        house = House(Calendar([7]), feasts, [Yearly("lesson", 3, 1)])
        self.assertEqual([back(house, "lesson", day) for day in range(7)], list(range(7)))

    def test_from_ahead_of_on_and_behind_the_day(self):
        for house in small_houses(50):
            for row in house.rows():
                name = row.told()[1]
                found = back(house, name, FAR)
                if found is not None:
                    self.assertEqual(back(house, name, found), found)
                    self.assertEqual(after(house, name, found)[1], 0)
                    self.assertGreater(back(house, name, found + 1), found)
                    for day in range(FAR, found):
                        self.assertGreater(after(house, name, day)[1], 0)


class MostOwed(unittest.TestCase):
    def test_by_hand(self):
        self.assertEqual(most_owed(SMALL, "psalm"), (2, 2))
        self.assertEqual(most_owed(SMALL, "lesson"), (0, 0))
        self.assertEqual(most_owed(ASLEEP, "psalm"), (0, 0))
        self.assertEqual(most_owed(ASLEEP, "hymn"), (4, 3))

    def test_in_the_first_turn_and_in_the_second_one(self):
        off = [("psalm", "off"), ("lesson", "off")]
        rows = [Going("psalm", 9, 3), Yearly("lesson", 9, 1)]
        first = House(Calendar([4, 6]), [Feast("lent", 1, 2, [1], off)], rows)
        self.assertEqual([most_owed(first, name) for name in ("psalm", "lesson")], [(2, 6), (2, 6)])
        second = House(Calendar([6]), [Feast("lent", 0, 1, None, off), Feast("paul", 4, 2, None, off)], rows)
        self.assertEqual([most_owed(second, name) for name in ("psalm", "lesson")], [(3, 6), (3, 5)])

    def test_the_first_such_day(self):
        # behind days of rest as much is owed as ahead of them, and a yearly row that has come to its end owes no more
        off, rest = Feast("lent", 1, 3, None, [("lesson", "off")]), Feast("paul", 4, 2, None, [("lesson", "rest")])
        house = House(Calendar([9, 9]), [off, rest], [Yearly("lesson", 3, 1)])
        self.assertEqual(most_owed(house, "lesson"), (2, 2))

    def test_against_a_walk(self):
        for house in small_houses(200):
            walked = Walked(house, 4)
            for name, steps in walked.steps.items():
                owed = [behind[1] for ahead, behind, read in steps]
                self.assertEqual(most_owed(house, name), (max(owed), owed.index(max(owed))))

    def test_kinds(self):
        for name in ("psalm", "lesson"):
            self.assertIsInstance(most_owed(SMALL, name), tuple)


class Refused(Refusing):
    def all_told(self, house):
        return [(next_read(house, name, 1, 5), times_read(house, name, 1, 50), readings(house, name, 3),
                 back(house, name, 6), most_owed(house, name), state(house, name, 7)) for name in ("psalm", "lesson")]

    def test_no_row_comes_first(self):
        told = self.all_told(SMALL)
        for name in ("lent", "psal", "psalms", "", "Psalm", "PSALM"):
            for ask in (next_read, times_read):
                for piece, day in ((0, 0), (-1, 0), (0, -1), (9, -1)):
                    self.refuses(NoRow, ask, SMALL, name, piece, day)
            for ask in (readings, back):
                for day in (0, -1):
                    self.refuses(NoRow, ask, SMALL, name, day)
            self.refuses(NoRow, most_owed, SMALL, name)
        self.assertEqual(self.all_told(SMALL), told)

    def test_then_no_piece_then_no_day(self):
        told = self.all_told(SMALL)
        for name, many in (("psalm", 3), ("lesson", 3), ("hymn", 9)):
            for ask in (next_read, times_read):
                for piece in (-1, many, many + 1, FAR, -FAR):
                    for day in (0, 7, FAR, -1, -FAR):
                        self.refuses(NoPiece, ask, SMALL, name, piece, day)
                for day in (-1, -9, -FAR):
                    for piece in (0, many - 1):
                        self.refuses(NoDay, ask, SMALL, name, piece, day)
            for ask in (readings, back):
                for day in (-1, -2, -FAR):
                    self.refuses(NoDay, ask, SMALL, name, day)
        self.assertEqual(self.all_told(SMALL), told)

    def test_also_of_rows_that_never_wake(self):
        self.refuses(NoPiece, next_read, ASLEEP, "psalm", 3, 0)
        self.refuses(NoPiece, times_read, ASLEEP, "lesson", 2, -1)
        self.refuses(NoDay, next_read, ASLEEP, "psalm", 2, -1)
        self.refuses(NoDay, back, ASLEEP, "psalm", -1)
        # also the pieces ahead of begin are pieces of the row
        self.assertIsNone(next_read(ASLEEP, "psalm", 0, 0))

    def test_the_interface(self):
        told = {"next_read": ["house", "name", "piece", "day"], "times_read": ["house", "name", "piece", "day"],
                "readings": ["house", "name", "year"], "back": ["house", "name", "day"], "most_owed": ["house", "name"]}
        for name, names in told.items():
            with self.subTest(name):
                self.assertEqual(list(inspect.signature(getattr(where, name)).parameters), names)


def asked(house, name, day):
    many = house.row(name).told()[2]
    return [next_read(house, name, many - 1, day), times_read(house, name, 0, day), readings(house, name, day),
            back(house, name, day), most_owed(house, name)]


class Alike(unittest.TestCase):
    def test_houses_of_the_same_parts_asked_by_turns(self):
        for house in small_houses(20):
            again = House(house.calendar(), house.feasts(), house.rows())
            names = [row.told()[1] for row in house.rows()]
            days = (0, 5, 77, 10 ** 25, FAR)
            told = {(name, day): asked(house, name, day) for name in names for day in days}
            for name in reversed(names):
                for day in reversed(days):
                    self.assertEqual(asked(again, name, day), told[name, day])
                    self.assertEqual(asked(house, name, day), told[name, day])

    def test_names_that_are_words_of_the_program(self):
        for house in small_houses(5) + [SMALL]:
            for other in word_houses(house):
                for row, other_row in zip(house.rows(), other.rows()):
                    for day in (0, 3, 11, FAR):
                        self.assertEqual(asked(house, row.told()[1], day), asked(other, other_row.told()[1], day))


class Great(unittest.TestCase):
    def test_without_a_long_wait(self):
        begun = time.monotonic()
        house = great_house()
        walked = Walked(house, 2)
        for name, steps in walked.steps.items():
            owed = [behind[1] for ahead, behind, read in steps]
            self.assertEqual(most_owed(house, name), (max(owed), owed.index(max(owed))))
            for day in range(0, 8000, 97):
                clear = [later for later in range(day, 16000) if owed[later] == 0]
                self.assertEqual(back(house, name, day), clear[0])
                self.assertEqual(back(house, name, 8000 + day + 8000 * FAR), back(house, name, 8000 + day) + 8000 * FAR)
        for day in range(10 ** 60 - 120, 10 ** 60):
            for name in ROW_NAMES:
                for lap, piece, own, feast in reads(house, name, day):
                    self.assertEqual(next_read(house, name, piece, day), (day, lap))
                    self.assertEqual(times_read(house, name, piece, day + 1), times_read(house, name, piece, day) + 1)
        for year in range(10 ** 58, 10 ** 58 + 20):
            for name in ROW_NAMES:
                days = range(400 * year, 400 * year + 400)
                self.assertEqual(readings(house, name, year), sum(len(reads(house, name, day)) for day in days))
        self.assertLess(time.monotonic() - begun, 60)

    def test_rows_of_one_piece(self):
        puts = [("psalm", "off"), ("lesson", "rest"), ("gospel", "off"), ("hymn", "rest")]
        feasts = [Feast(name, 50 * place, 40, None, puts[place % 2::2] + puts[1 - place % 2::2])
                  for place, name in enumerate(("a", "b", "c", "d", "e", "f", "g", "h"))]
        rows = [Going("psalm", 1, 9), Going("lesson", 1, 1), Yearly("gospel", 1, 9), Yearly("hymn", 1, 1)]
        house = House(Calendar([400] * 20), feasts, rows)
        for name in ("psalm", "lesson", "gospel", "hymn"):
            for day in (0, 39, 40, 399, 10 ** 59 + 7):
                found, lap = next_read(house, name, 0, day)
                self.assertIn((lap, 0), [told[:2] for told in reads(house, name, found)])
                self.assertEqual(times_read(house, name, 0, found), times_read(house, name, 0, day))
        self.assertEqual(next_read(house, "gospel", 0, 0), (40, 0))
        self.assertEqual(next_read(house, "hymn", 0, 10 ** 59 + 41), (10 ** 59 + 440, 10 ** 59 // 400 + 1))


if __name__ == "__main__":
    unittest.main()
