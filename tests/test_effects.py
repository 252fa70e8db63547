"""[15] What a put would do, and what [0] and [7] say of it."""

import random
import time
import unittest

from readround.calendars import Calendar
from readround.diary import Diary
from readround.errors import BadNumber, NoDay, NoDeed, NoRow
from readround.feasts import Feast
from readround.houses import House
from readround.rows import Going, Yearly
from tests.refusals import Refusing
from tests.sample_diaries import SORTS, all_tellings, diary_with, random_singles, turns_to_walk
from tests.sample_houses import ASLEEP, FAR, ROW_NAMES, TIGHT, Walked, great_house, small_houses

# psalm: off on the days 1 and 2 of each year; lesson: at rest then
SMALL = House(Calendar([5, 4]), [Feast("lent", 1, 2, None, [("psalm", "off"), ("lesson", "rest")])],
              [Going("psalm", 3, 2, 1), Yearly("lesson", 3, 1), Yearly("hymn", 9, 1)])
HOUSES = [SMALL, ASLEEP] + list(TIGHT)
DAYS = (0, 1, 3, 4, 9, FAR)


def with_put(singles, name, day, sort):
    return [single for single in singles if single[:2] != (day, name)] + [(day, name, sort)]


def moves_by_walks(now, then, name, day, span):
    """Straight from the words of the document, over two walks."""
    found = {}
    for at, walked in enumerate((now, then)):
        for one in range(day, day + span):
            for lap, piece, own in walked.steps[name][one][2]:
                found.setdefault((lap, piece), [None, None])[at] = one
    return [(lap, piece, *days) for (lap, piece), days in sorted(found.items()) if days[0] != days[1]]


class Settled(unittest.TestCase):
    def against_walks(self, house, singles, name, day, sort):
        diary = diary_with(house, singles)
        turns = turns_to_walk(house, max([day] + [one for one, word, other in singles]))
        now, then = Walked(house, turns, singles), Walked(house, turns, with_put(singles, name, day, sort))
        alike = [one for one in range(day + 1, now.days) if now.steps[name][one][0] == then.steps[name][one][0]]
        self.assertEqual(diary.settled(name, day, sort), alike[0] if alike else None, (singles, name, day, sort))

    def test_by_hand(self):
        diary = Diary(SMALL)
        # day 5 reads what day 0 put off; what day 3 would put off waits for the free days 13 and 14
        self.assertEqual(diary.settled("psalm", 0, "off"), 6)
        self.assertEqual(diary.settled("psalm", 3, "off"), 15)
        self.assertEqual(diary.settled("psalm", 3, "free"), 4)
        # nothing comes due on that day any more: due stays otherwise for ever
        self.assertIsNone(diary.settled("psalm", 3, "rest"))
        self.assertEqual(diary.settled("psalm", 2, "free"), 5)
        # a yearly row is begun anew
        self.assertEqual(diary.settled("lesson", 0, "rest"), 5)
        self.assertEqual(diary.settled("lesson", 3, "off"), 5)
        self.assertEqual(diary.settled("lesson", 4, "off"), 5)
        self.assertEqual(diary.settled("lesson", 1, "free"), 5)
        self.assertEqual(diary.settled("lesson", 9 * FAR + 8, "off"), 9 * FAR + 9)

    def test_a_yearly_row_that_meets_at_its_end(self):
        # all three have come due behind day 2, or behind day 3 with a day of rest ahead
        house = House(Calendar([9]), [], [Yearly("lesson", 3, 1)])
        diary = Diary(house)
        self.assertEqual([diary.settled("lesson", day, "rest") for day in range(6)], [4, 4, 4, 4, 5, 6])
        self.assertEqual([diary.settled("lesson", day, "off") for day in range(6)], [4, 4, 4, 4, 5, 6])

    def test_never(self):
        # as tight as may be: what is put off is owed for ever
        diary = Diary(TIGHT[0])
        for day in (1, 3, 2 * FAR + 1):
            self.assertIsNone(diary.settled("psalm", day, "off"))
            self.assertIsNone(diary.settled("psalm", day, "rest"))
            self.assertEqual(diary.settled("psalm", day, "free"), day + 1)
        # but for a free day in the place of one off far behind it
        diary.put("psalm", 2 * FAR, "free")
        self.assertEqual(diary.settled("psalm", 1, "off"), 2 * FAR + 2)
        self.assertIsNone(diary.settled("psalm", 2 * FAR + 1, "off"))

    def test_each_day_to_each_sort(self):
        for house in HOUSES:
            for row in house.rows():
                for day in range(house.calendar().turn() + 2):
                    for sort in SORTS:
                        self.against_walks(house, [], row.told()[1], day, sort)

    def test_with_single_days_ahead_of_it_and_behind_it(self):
        chance = random.Random(81)
        for house in small_houses(50):
            turn = house.calendar().turn()
            for again in range(4):
                singles = random_singles(chance, house, chance.randint(1, 6), 3 * turn)
                row = chance.choice(house.rows())
                self.against_walks(house, singles, row.told()[1], chance.randrange(3 * turn), chance.choice(SORTS))
                # in the place of another
                day, name, sort = chance.choice(singles)
                self.against_walks(house, singles, name, day, chance.choice(SORTS))

    def test_far_away(self):
        chance = random.Random(82)
        nevers = 0
        for house in HOUSES + small_houses(30):
            for again in range(4):
                days = [chance.randrange(10 ** chance.randint(1, 60)) for one in range(6)]
                singles = [(day + more, chance.choice(house.rows()).told()[1], chance.choice(SORTS))
                           for day in days for more in (0, 9)]
                singles = list({single[:2]: single for single in singles}.values())
                diary = diary_with(house, singles)
                for row in house.rows():
                    name, day, sort = row.told()[1], chance.choice(days) + chance.randint(0, 3), chance.choice(SORTS)
                    second = diary_with(house, with_put(singles, name, day, sort))
                    nevers += self.told_day(diary, second, name, day, diary.settled(name, day, sort))
        self.assertGreater(nevers, 5)

    def told_day(self, diary, second, name, day, told):
        """The states are one on the told day and not on the one ahead of it; 1 where no day is told."""
        if told is None:
            for later in (day + 1, day + 500, 10 ** 61, 10 ** 62 + 77):
                self.assertNotEqual(diary.state(name, later), second.state(name, later))
            return 1
        self.assertGreater(told, day)
        self.assertEqual(diary.state(name, told), second.state(name, told))
        if told > day + 1:
            self.assertNotEqual(diary.state(name, told - 1), second.state(name, told - 1))
        return 0

    def test_a_put_that_changes_nothing(self):
        for house in HOUSES:
            diary = Diary(house)
            for row in house.rows():
                name = row.told()[1]
                for day in (0, 1, 5, FAR, FAR + 3):
                    self.assertEqual(diary.settled(name, day, house.sort_on(name, day)[0]), day + 1)
        diary = diary_with(SMALL, [(3, "psalm", "rest")])
        self.assertEqual(diary.settled("psalm", 3, "rest"), 4)
        self.assertIsNone(diary.settled("psalm", 3, "off"))

    def test_what_the_turns_take_away_slowly(self):
        # 199 days off and 201 free ones that read two: each turn takes away just 2
        feasts = [Feast(name, 40 * place, days, None, [("psalm", "off")])
                  for place, (name, days) in enumerate((("a", 40), ("b", 40), ("c", 40), ("d", 40), ("e", 39)))]
        house = House(Calendar([400]), feasts, [Going("psalm", 10 ** 6, 2)])
        singles = [(200 + 2 * more, "psalm", "off") for more in range(19)]
        diary = diary_with(house, singles)
        now, then = Walked(house, 30, singles), Walked(house, 30, singles + [(399, "psalm", "off")])
        alike = [day for day in range(400, 12000) if now.steps["psalm"][day][0] == then.steps["psalm"][day][0]]
        self.assertEqual(diary.settled("psalm", 399, "off"), alike[0])
        self.assertGreater(alike[0], 6000)


class Moves(unittest.TestCase):
    def test_by_hand(self):
        diary = Diary(SMALL)
        self.assertEqual(diary.moves("psalm", 0, "off", 5), [(0, 1, 0, 3), (1, 0, 3, 4), (1, 2, 4, None)])
        self.assertEqual(diary.moves("psalm", 0, "off", 6), [(0, 1, 0, 3), (1, 0, 3, 4), (1, 2, 4, 5)])
        self.assertEqual(diary.moves("psalm", 0, "off", 1), [(0, 1, 0, None)])
        self.assertEqual(diary.moves("psalm", 2, "free", 1), [(0, 2, None, 2), (1, 0, None, 2)])
        self.assertEqual(diary.moves("psalm", 0, "free", 120), [])
        self.assertEqual(diary.moves("lesson", 0, "rest", 9), [(0, 0, 0, 3), (0, 1, 3, 4), (0, 2, 4, None)])
        self.assertEqual(diary.moves("lesson", 8, "rest", 5), [(1, 1, 8, None)])
        self.assertEqual(diary.moves("psalm", 5 * 9 * FAR + 4, "off", 1)[0][2:], (45 * FAR + 4, None))

    def test_a_row_of_one_piece(self):
        # each reading is of another round
        house = House(Calendar([4]), [], [Going("psalm", 1, 2)])
        self.assertEqual(Diary(house).moves("psalm", 2, "off", 3), [(2, 0, 2, 3)])
        self.assertEqual(Diary(house).moves("psalm", 2, "rest", 3), [(2, 0, 2, 3), (3, 0, 3, 4), (4, 0, 4, None)])

    def test_in_order_of_rounds_then_of_pieces(self):
        house = House(Calendar([4]), [], [Going("psalm", 3, 2, 2)])
        told = Diary(house).moves("psalm", 0, "rest", 8)
        self.assertEqual([row[:2] for row in told], [(0, 2), (1, 0), (1, 1), (1, 2), (2, 0), (2, 1), (2, 2), (3, 0)])
        self.assertEqual(told[-1], (3, 0, 7, None))

    def test_against_two_walks(self):
        chance = random.Random(91)
        for house in HOUSES + small_houses(50):
            turn = house.calendar().turn()
            for again in range(6):
                singles = random_singles(chance, house, chance.randint(0, 6), 3 * turn)
                name, day, sort = chance.choice(house.rows()).told()[1], chance.randrange(3 * turn), chance.choice(SORTS)
                turns = 4 + 120 // turn
                now, then = Walked(house, turns, singles), Walked(house, turns, with_put(singles, name, day, sort))
                diary = diary_with(house, singles)
                for span in (1, 2, 7, 30, 119, 120):
                    self.assertEqual(diary.moves(name, day, sort, span), moves_by_walks(now, then, name, day, span))

    def test_far_away_against_reads(self):
        chance = random.Random(92)
        for house in HOUSES + small_houses(15):
            for again in range(3):
                day = chance.randrange(10 ** chance.randint(20, 60))
                singles = [(day + more, chance.choice(house.rows()).told()[1], chance.choice(SORTS)) for more in (-9, 0, 4)]
                name, sort = chance.choice(house.rows()).told()[1], chance.choice(SORTS)
                diary, second = diary_with(house, singles), diary_with(house, with_put(singles, name, day, sort))
                found = {}
                for at, one in enumerate((diary, second)):
                    for later in range(day, day + 25):
                        for lap, piece, own, feast in one.reads(name, later):
                            found.setdefault((lap, piece), [None, None])[at] = later
                expected = [(lap, piece, *days) for (lap, piece), days in sorted(found.items()) if days[0] != days[1]]
                self.assertEqual(diary.moves(name, day, sort, 25), expected)

    def test_kinds(self):
        told = Diary(SMALL).moves("psalm", 0, "off", 5)
        self.assertIsInstance(told, list)
        for row in told:
            self.assertIsInstance(row, tuple)
        told.clear()
        self.assertEqual(len(Diary(SMALL).moves("psalm", 0, "off", 5)), 3)


class Refused(Refusing):
    def test_as_put_is(self):
        diary = diary_with(SMALL, [(12, "psalm", "off")])
        diary.go(9)
        ahead = all_tellings(diary, SMALL, DAYS)
        wrong = [(NoRow, name, day, sort) for name in ("lent", "", "psal", "PSALM") for day in (9, 3, -1) for sort in ("off", "on")]
        wrong += [(NoDay, "psalm", day, sort) for day in (-1, -FAR) for sort in ("off", "on")]
        wrong += [(NoDeed, "psalm", 8, "off"), (NoDeed, "lesson", 0, "on"), (NoDeed, "psalm", 9, "on"), (NoDeed, "psalm", 9, "")]
        for kind, name, day, sort in wrong:
            self.refuses(kind, diary.put, name, day, sort)
            self.refuses(kind, diary.settled, name, day, sort)
            for span in (1, 120, 0, 121, -1):
                self.refuses(kind, diary.moves, name, day, sort, span)
        self.assertEqual(all_tellings(diary, SMALL, DAYS), ahead)

    def test_with_twenty_single_days(self):
        diary = diary_with(SMALL, [(day, "psalm", "off") for day in range(20)])
        ahead = all_tellings(diary, SMALL, DAYS)
        for name, day in (("psalm", 20), ("lesson", 3), ("psalm", FAR)):
            self.refuses(NoDeed, diary.settled, name, day, "off")
            self.refuses(NoDeed, diary.moves, name, day, "off", 5)
            self.refuses(NoDeed, diary.moves, name, day, "off", 0)
        self.assertEqual(diary.settled("psalm", 19, "off"), 20)
        self.assertEqual(diary.moves("psalm", 19, "off", 120), [])
        self.assertIsNone(diary.settled("psalm", 19, "rest"))
        self.assertEqual(all_tellings(diary, SMALL, DAYS), ahead)

    def test_the_span(self):
        diary = Diary(SMALL)
        for span in (0, -1, 121, FAR, -FAR):
            self.refuses(BadNumber, diary.moves, "psalm", 0, "off", span)
        for span in (1, 120):
            self.assertTrue(diary.moves("psalm", 0, "off", span))

    def test_nothing_is_changed(self):
        chance = random.Random(93)
        for house in [SMALL] + small_houses(10):
            diary = diary_with(house, random_singles(chance, house, 5, 20))
            ahead = all_tellings(diary, house, DAYS)
            for row in house.rows():
                for sort in SORTS:
                    for day in (0, 7, FAR):
                        first = (diary.settled(row.told()[1], day, sort), diary.moves(row.told()[1], day, sort, 20))
                        again = (diary.settled(row.told()[1], day, sort), diary.moves(row.told()[1], day, sort, 20))
                        self.assertEqual(first, again)
            self.assertEqual(all_tellings(diary, house, DAYS), ahead)


class Great(unittest.TestCase):
    def test_without_a_long_wait(self):
        begun = time.monotonic()
        house = great_house()
        chance = random.Random(94)
        for again in range(3):
            singles = [(chance.randrange(10 ** chance.randint(1, 60)), chance.choice(ROW_NAMES), chance.choice(SORTS))
                       for one in range(19)]
            diary = diary_with(house, singles)
            for name in ROW_NAMES:
                for day in [chance.randrange(10 ** chance.randint(1, 60)) for one in range(3)]:
                    for sort in SORTS:
                        second = diary_with(house, with_put(singles, name, day, sort))
                        told = diary.settled(name, day, sort)
                        if told is not None:
                            self.assertEqual(diary.state(name, told), second.state(name, told))
                            self.assertTrue(told == day + 1 or diary.state(name, told - 1) != second.state(name, told - 1))
                        for lap, piece, now, then in diary.moves(name, day, sort, 120):
                            if then is not None:
                                self.assertIn((lap, piece), [row[:2] for row in second.reads(name, then)])
        self.assertLess(time.monotonic() - begun, 60)


if __name__ == "__main__":
    unittest.main()
