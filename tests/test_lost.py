"""[11] Lost rows, and what [0] says of them."""

import inspect
import random
import time
import unittest

from readround import lost
from readround.calendars import Calendar
from readround.errors import BadNumber, NoDay, NoRow
from readround.feasts import Feast
from readround.houses import House
from readround.lost import lost_rows
from readround.reading import reads
from readround.rows import Going, Yearly
from tests.refusals import Refusing
from tests.sample_houses import FAR, ROW_NAMES, TIGHT, Walked, great_house, small_houses, word_houses

# psalm: off on the days 1 and 2 of each year
SMALL = House(Calendar([5, 4]), [Feast("lent", 1, 2, None, [("psalm", "off")])],
              [Going("psalm", 7, 2, 3), Yearly("lesson", 2, 1), Going("hymn", 5, 1)])


def seen_by(house, name, days):
    return [(day, [piece for lap, piece, own, feast in reads(house, name, day)]) for day in days]


def with_row(house, name, many, begin):
    """The house with other many and begin of one row."""
    rows = [Going(name, many, row.told()[3], begin) if row.told()[1] == name else row for row in house.rows()]
    return House(house.calendar(), house.feasts(), rows)


def by_trying(house, name, seen, bound):
    """All pairs (many, begin) up to the bound by which the row reads as it was seen."""
    found = []
    for many in range(1, bound + 1):
        for begin in range(many):
            tried = with_row(house, name, many, begin)
            if seen_by(tried, name, [day for day, pieces in seen]) == seen:
                found.append((many, begin))
    return found


class LostRows(unittest.TestCase):
    def test_by_hand(self):
        # psalm reads 3 on day 0, 4 and 5 on day 3, 6 and 0 on day 4, 1 on day 5
        self.assertEqual(lost_rows(SMALL, "psalm", [(0, [3])], 60), [(4, 3), (5, 3)])
        self.assertEqual(lost_rows(SMALL, "psalm", [(3, [4, 5])], 60), [(6, 3), (7, 3)])
        self.assertEqual(lost_rows(SMALL, "psalm", [(4, [6, 0])], 60), [(7, 3)])
        self.assertEqual(lost_rows(SMALL, "psalm", [(4, [6, 0])], 6), [])
        self.assertEqual(lost_rows(SMALL, "psalm", [(4, [6, 0])], 7), [(7, 3)])
        self.assertEqual(lost_rows(SMALL, "psalm", [(0, [3]), (5, [1])], 60), [(7, 3)])

    def test_nothing_seen(self):
        self.assertEqual(lost_rows(SMALL, "psalm", [], 1), [(1, 0)])
        for bound in (2, 3, 60):
            self.assertEqual(lost_rows(SMALL, "psalm", [], bound), [(1, 0), (2, 0)])

    def test_days_on_which_nothing_is_read(self):
        self.assertEqual(lost_rows(SMALL, "psalm", [(1, []), (2, [])], 60), [(1, 0), (2, 0)])
        self.assertEqual(lost_rows(SMALL, "psalm", [(1, [0])], 60), [])
        self.assertEqual(lost_rows(SMALL, "psalm", [(0, [])], 60), [])

    def test_pieces_in_another_order_one_more_one_less_and_beyond_many(self):
        for pieces in ([5, 4], [4], [5], [4, 5, 6], [3, 4, 5], [4, 4], [], [4, -1], [-3, -2], [60, 61], [FAR, FAR + 1]):
            told = lost_rows(SMALL, "psalm", [(3, pieces), (4, [6, 0])], 60)
            self.assertEqual(told, [], pieces)
        self.assertEqual(lost_rows(SMALL, "psalm", [(3, [58, 59])], 60), [(60, 57)])
        self.assertEqual(lost_rows(SMALL, "psalm", [(3, [59, 60])], 60), [])

    def test_two_pieces_of_a_row_of_one(self):
        self.assertEqual(lost_rows(SMALL, "psalm", [(3, [0, 0])], 60), [(1, 0)])

    def test_a_day_told_twice(self):
        self.assertEqual(lost_rows(SMALL, "psalm", [(4, [6, 0]), (4, [6, 0])], 60), [(7, 3)])
        self.assertEqual(lost_rows(SMALL, "psalm", [(4, [6, 0]), (4, [7, 0])], 60), [])

    def test_days_in_any_order(self):
        self.assertEqual(lost_rows(SMALL, "psalm", [(5, [1]), (0, [3])], 60), [(7, 3)])

    def test_against_trying_all(self):
        chance = random.Random(31)
        counts = set()
        for house in [one for one in small_houses(60) if any(row.told()[0] == "going" for row in one.rows())][:25]:
            row = chance.choice([row for row in house.rows() if row.told()[0] == "going"])
            for again in range(4):
                days = [chance.randrange(10 ** chance.choice((1, 1, 2, 30))) for day in range(chance.randint(1, 3))]
                seen = seen_by(house, row.told()[1], days)
                bound = chance.choice((1, 2, 7, 12))
                if chance.random() < 0.3:
                    seen[0] = (seen[0][0], [chance.randrange(4) for piece in seen[0][1]])
                found = by_trying(house, row.told()[1], seen, bound)
                counts.add(min(len(found), 2))
                self.assertEqual(lost_rows(house, row.told()[1], seen, bound), found[:2])
        self.assertEqual(counts, {0, 1, 2})

    def test_the_rows_own_many_and_begin_change_nothing(self):
        seen = [(4, [6, 0]), (7 * FAR, seen_by(SMALL, "psalm", [7 * FAR])[0][1])]
        for many, begin in ((7, 3), (1, 0), (10 ** 6, 10 ** 6 - 1), (60, 5)):
            self.assertEqual(lost_rows(with_row(SMALL, "psalm", many, begin), "psalm", seen, 60), [(7, 3)])

    def test_the_rest_of_the_house_stands(self):
        # the same days seen, by another most
        two, three = [House(Calendar([9]), [Feast("lent", 0, 3, None, [("psalm", "off")])], [Going("psalm", 5, most)])
                      for most in (2, 3)]
        self.assertEqual(lost_rows(two, "psalm", [(3, [0, 1])], 60)[0], (2, 0))
        self.assertEqual(lost_rows(three, "psalm", [(3, [0, 1])], 60), [])

    def test_what_is_found_reads_as_seen(self):
        chance = random.Random(32)
        for house in TIGHT:
            for many, begin in ((60, 59), (37, 0), (2, 1), (1, 0)):
                days = [chance.randrange(10 ** chance.randint(1, 30)) for day in range(40)]
                seen = seen_by(with_row(house, "psalm", many, begin), "psalm", days)
                told = lost_rows(house, "psalm", seen, 60)
                self.assertIn((many, begin), told)
                for pair in told:
                    self.assertEqual(seen_by(with_row(house, "psalm", *pair), "psalm", days), seen)

    def test_against_a_walk(self):
        walked = Walked(SMALL, 12)
        seen = [(day, [piece for lap, piece, own in walked.steps["psalm"][day][2]]) for day in range(0, 108, 3)]
        self.assertEqual(lost_rows(SMALL, "psalm", seen, 60), [(7, 3)])
        self.assertEqual(lost_rows(SMALL, "psalm", seen[:-1] + [(105, [2, 2, 2])], 60), [])

    def test_names_that_are_words_of_the_program(self):
        for other in word_houses(SMALL):
            name = other.rows()[0].told()[1]
            self.assertEqual(lost_rows(other, name, [(4, [6, 0])], 60), [(7, 3)])

    def test_kinds(self):
        told = lost_rows(SMALL, "psalm", [(0, [3])], 60)
        self.assertIsInstance(told, list)
        for pair in told:
            self.assertIsInstance(pair, tuple)

    def test_what_was_handed_in_and_told_may_be_changed(self):
        pieces = [6, 0]
        seen = [(4, pieces)]
        told = lost_rows(SMALL, "psalm", seen, 60)
        self.assertEqual(seen, [(4, [6, 0])])
        told.clear()
        pieces.clear()
        seen.clear()
        self.assertEqual(lost_rows(SMALL, "psalm", [(4, [6, 0])], 60), [(7, 3)])
        self.assertEqual([row.told() for row in SMALL.rows()],
                         [("going", "psalm", 7, 2, 3), ("yearly", "lesson", 2, 1), ("going", "hymn", 5, 1, 0)])

    def test_a_great_house_without_a_long_wait(self):
        begun = time.monotonic()
        house = great_house()
        for name in ROW_NAMES[:2]:
            days = [10 ** 30 - 1 - 199 * day for day in range(40)]
            for many, begin in ((60, 7), (59, 58)):
                seen = seen_by(with_row(house, name, many, begin), name, days)
                self.assertEqual(lost_rows(house, name, seen, 60), [(many, begin)])
        self.assertLess(time.monotonic() - begun, 20)


class Refused(Refusing):
    def test_no_going_row_of_the_house(self):
        for name in ("lesson", "lent", "psal", "psalms", "", "PSALM"):
            self.refuses(NoRow, lost_rows, SMALL, name, [], 60)
            self.refuses(NoRow, lost_rows, SMALL, name, [(-1, [])], 0)

    def test_the_bound(self):
        for bound in (0, -1, 61, FAR, -FAR):
            self.refuses(BadNumber, lost_rows, SMALL, "psalm", [], bound)
            self.refuses(BadNumber, lost_rows, SMALL, "psalm", [(-1, [])], bound)

    def test_a_seen_day_below_0(self):
        fine = [(day, []) for day in range(3)]
        for below in (-1, -FAR):
            for at in range(4):
                self.refuses(NoDay, lost_rows, SMALL, "psalm", fine[:at] + [(below, [3])] + fine[at:], 60)
        # also where no row would fit
        self.refuses(NoDay, lost_rows, SMALL, "psalm", [(0, [1, 2, 3]), (-1, [])], 60)

    def test_nothing_is_changed(self):
        seen = [(0, [3]), (-1, [])]
        self.refuses(NoDay, lost_rows, SMALL, "psalm", seen, 60)
        self.assertEqual(seen, [(0, [3]), (-1, [])])
        self.assertEqual(lost_rows(SMALL, "psalm", seen[:1], 60), [(4, 3), (5, 3)])

    def test_the_interface(self):
        self.assertEqual(list(inspect.signature(lost.lost_rows).parameters), ["house", "name", "seen", "bound"])


if __name__ == "__main__":
    unittest.main()
