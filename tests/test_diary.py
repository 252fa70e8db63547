"""[13] and [14]: a diary and its deeds, and what [0] says of them."""

import inspect
import itertools
import random
import unittest

from readround.calendars import Calendar
from readround.diary import Diary, diary_of
from readround.errors import NoDay, NoDeed, NoRow
from readround.far import state
from readround.feasts import Feast
from readround.houses import House
from readround.reading import reads
from readround.rows import Going, Yearly
from tests.refusals import Refusing
from tests.sample_diaries import SORTS, all_tellings, diary_with, random_singles
from tests.sample_houses import FAR, TIGHT, small_houses, word_houses

# psalm: off on the days 1 and 2 of each year; lesson: at rest then
SMALL = House(Calendar([5, 4]), [Feast("lent", 1, 2, None, [("psalm", "off"), ("lesson", "rest")])],
              [Going("psalm", 3, 2, 1), Yearly("lesson", 3, 1), Yearly("hymn", 9, 1)])
DAYS = (0, 1, 2, 3, 4, 5, 8, 9, 30, FAR)
NO_SORTS = ("", "Off", "on", "feast", "going", "res", "restt", "free ", "never")


class Kept:
    """A diary kept by hand, straight from the words of the document."""

    def __init__(self, names):
        self.names = names
        self.day, self.put_days, self.done, self.ahead = 0, {}, [], []

    def refusal(self, deed):
        """The refusal that is due, or None."""
        if deed[0] == "undo":
            return None if self.done else NoDeed
        day = deed[1] if deed[0] == "go" else deed[2]
        if deed[0] != "go" and deed[1] not in self.names:
            return NoRow
        if day < 0:
            return NoDay
        if day < self.day:
            return NoDeed
        if deed[0] == "drop" and (day, deed[1]) not in self.put_days:
            return NoDeed
        if deed[0] == "put" and deed[3] not in SORTS:
            return NoDeed
        if deed[0] == "put" and len(self.put_days) == 20 and (day, deed[1]) not in self.put_days:
            return NoDeed
        return None

    def do(self, deed):
        if deed[0] == "undo":
            self.day, self.put_days = self.ahead.pop()
            self.done.pop()
            return
        self.ahead.append((self.day, dict(self.put_days)))
        self.done.append(deed)
        if deed[0] == "put":
            self.put_days[deed[2], deed[1]] = deed[3]
        elif deed[0] == "drop":
            del self.put_days[deed[2], deed[1]]
        else:
            self.day = deed[1]

    def told(self):
        singles = [(day, name, self.put_days[day, name]) for day, name in sorted(self.put_days)]
        return self.day, singles, list(self.done)


def do(diary, deed):
    return getattr(diary, deed[0])(*deed[1:])


def told(diary):
    return diary.today(), diary.singles(), diary.log()


def random_deed(chance, days):
    name = chance.choice(("psalm", "lesson", "hymn", "psalm", "lesson", "hymn", "lent"))
    day = chance.choice(days)
    return chance.choice([("put", name, day, chance.choice(SORTS + SORTS + ("none",)))] * 8
                         + [("drop", name, day)] * 4 + [("go", day)] + [("undo",)] * 3)


class Fresh(unittest.TestCase):
    def test_a_fresh_diary_tells_what_the_house_tells(self):
        diary = Diary(SMALL)
        self.assertEqual(told(diary), (0, [], []))
        for name in ("psalm", "lesson", "hymn"):
            for day in DAYS:
                self.assertEqual(diary.sort_on(name, day), SMALL.sort_on(name, day))
                self.assertEqual(diary.state(name, day), state(SMALL, name, day))
                self.assertEqual(diary.reads(name, day), reads(SMALL, name, day))

    def test_kinds(self):
        diary = diary_with(SMALL, [(3, "psalm", "off")])
        self.assertIsInstance(diary.singles(), list)
        self.assertIsInstance(diary.log(), list)
        for row in diary.singles() + diary.log() + [diary.sort_on("psalm", 3), diary.state("psalm", 3)]:
            self.assertIsInstance(row, tuple)
        self.assertIsInstance(diary.reads("psalm", 4), list)

    def test_the_interface(self):
        methods = {"today": [], "sort_on": ["name", "day"], "state": ["name", "day"], "reads": ["name", "day"],
                   "back": ["name", "day"], "singles": [], "put": ["name", "day", "sort"], "drop": ["name", "day"],
                   "go": ["day"], "undo": [], "log": [], "settled": ["name", "day", "sort"],
                   "moves": ["name", "day", "sort", "span"], "__init__": ["house"]}
        for name, names in methods.items():
            with self.subTest(name):
                self.assertIn(name, vars(Diary))
                self.assertEqual(list(inspect.signature(vars(Diary)[name]).parameters)[1:], names)
        self.assertEqual(list(inspect.signature(diary_of).parameters), ["house", "log"])


class Deeds(Refusing):
    def test_by_hand(self):
        diary = Diary(SMALL)
        diary.put("psalm", 7, "rest")
        diary.put("lesson", 3, "off")
        diary.put("hymn", 3, "free")
        diary.go(3)
        diary.put("psalm", 7, "off")
        diary.drop("lesson", 3)
        self.assertEqual(told(diary), (3, [(3, "hymn", "free"), (7, "psalm", "off")],
                                       [("put", "psalm", 7, "rest"), ("put", "lesson", 3, "off"), ("put", "hymn", 3, "free"),
                                        ("go", 3), ("put", "psalm", 7, "off"), ("drop", "lesson", 3)]))
        diary.undo()
        diary.undo()
        self.assertEqual(diary.singles(), [(3, "hymn", "free"), (3, "lesson", "off"), (7, "psalm", "rest")])
        diary.undo()
        self.assertEqual(diary.today(), 0)
        self.assertEqual(len(diary.log()), 3)

    def test_singles_by_day_then_by_name(self):
        diary = diary_with(SMALL, [(10, "psalm", "off"), (9, "psalm", "off"), (10, "hymn", "rest"), (10, "lesson", "free"),
                                   (FAR, "hymn", "off"), (2, "psalm", "rest")])
        self.assertEqual([single[:2] for single in diary.singles()],
                         [(2, "psalm"), (9, "psalm"), (10, "hymn"), (10, "lesson"), (10, "psalm"), (FAR, "hymn")])

    def test_the_very_sort_that_stands(self):
        diary = diary_with(SMALL, [(3, "psalm", "off"), (3, "psalm", "off")])
        self.assertEqual(told(diary), (0, [(3, "psalm", "off")], [("put", "psalm", 3, "off")] * 2))
        diary.undo()
        self.assertEqual(told(diary), (0, [(3, "psalm", "off")], [("put", "psalm", 3, "off")]))

    def test_today_itself(self):
        diary = Diary(SMALL)
        diary.go(5)
        diary.go(5)
        diary.put("psalm", 5, "off")
        diary.drop("psalm", 5)
        self.assertEqual(diary.log(), [("go", 5), ("go", 5), ("put", "psalm", 5, "off"), ("drop", "psalm", 5)])
        for call in (lambda: diary.put("psalm", 4, "off"), lambda: diary.drop("psalm", 4), lambda: diary.go(4)):
            self.refuses(NoDeed, call)

    def test_single_days_behind_today_stand_on(self):
        diary = diary_with(SMALL, [(3, "psalm", "rest")])
        diary.go(FAR)
        self.assertEqual(diary.singles(), [(3, "psalm", "rest")])
        self.assertEqual(diary.sort_on("psalm", 3), ("rest", ""))
        self.refuses(NoDeed, diary.drop, "psalm", 3)
        self.refuses(NoDeed, diary.put, "psalm", 3, "rest")
        diary.undo()
        diary.drop("psalm", 3)
        self.assertEqual(diary.singles(), [])

    def test_twenty_and_one_more(self):
        diary = diary_with(SMALL, [(day, name, "off") for day in range(4, 11) for name in ("psalm", "lesson", "hymn")][:20])
        ahead = told(diary)
        for name, day in (("psalm", 3), ("hymn", 10), ("psalm", FAR)):
            self.refuses(NoDeed, diary.put, name, day, "off")
        self.assertEqual(told(diary), ahead)
        # one that stands may be put otherwise, and to the same
        diary.put("psalm", 4, "rest")
        diary.put("psalm", 4, "rest")
        self.assertEqual(len(diary.singles()), 20)
        self.refuses(NoDeed, diary.put, "psalm", 4, "none")
        diary.drop("lesson", 10)
        diary.put("hymn", 10, "free")
        self.assertEqual(len(diary.singles()), 20)
        self.refuses(NoDeed, diary.put, "lesson", 10, "off")
        diary.undo()
        diary.put("lesson", 10, "off")

    def test_against_a_list_kept_by_hand(self):
        chance = random.Random(71)
        seen = set()
        for again in range(40):
            days = (-1, 0, 1, 2, 3, 5, 9, 30, FAR) if again % 2 else tuple(range(-1, 16))
            diary, kept = Diary(SMALL), Kept(("psalm", "lesson", "hymn"))
            for step in range(120):
                deed = random_deed(chance, days)
                due = kept.refusal(deed)
                seen.add((deed[0], due))
                if due is None:
                    self.assertIsNone(do(diary, deed))
                    kept.do(deed)
                else:
                    self.refuses(due, do, diary, deed)
                self.assertEqual(told(diary), kept.told())
        self.assertTrue({("put", None), ("put", NoRow), ("put", NoDay), ("put", NoDeed), ("drop", None), ("drop", NoRow),
                         ("drop", NoDay), ("drop", NoDeed), ("go", None), ("go", NoDay), ("go", NoDeed), ("undo", None),
                         ("undo", NoDeed)} <= seen)

    def test_the_order_of_refusals(self):
        diary = Diary(SMALL)
        diary.go(9)
        ahead = told(diary)
        for name in ("lent", "", "psal", "psalms", "PSALM"):
            for day in (9, 8, -1):
                for sort in ("off", "none"):
                    self.refuses(NoRow, diary.put, name, day, sort)
                self.refuses(NoRow, diary.drop, name, day)
        for day in (-1, -FAR):
            for sort in ("off", "none"):
                self.refuses(NoDay, diary.put, "psalm", day, sort)
            self.refuses(NoDay, diary.drop, "psalm", day)
            self.refuses(NoDay, diary.go, day)
        for day in (0, 8):
            self.refuses(NoDeed, diary.put, "psalm", day, "off")
            self.refuses(NoDeed, diary.drop, "psalm", day)
            self.refuses(NoDeed, diary.go, day)
        for sort in NO_SORTS:
            self.refuses(NoDeed, diary.put, "psalm", 9, sort)
        for day in (9, 10, FAR):
            self.refuses(NoDeed, diary.drop, "psalm", day)
        self.assertEqual(told(diary), ahead)

    def test_a_drop_is_of_that_row_alone(self):
        diary = diary_with(SMALL, [(3, "psalm", "off")])
        self.refuses(NoDeed, diary.drop, "lesson", 3)
        self.refuses(NoDeed, diary.drop, "psalm", 4)
        diary.drop("psalm", 3)
        self.refuses(NoDeed, diary.drop, "psalm", 3)

    def test_no_deed_is_left(self):
        diary = Diary(SMALL)
        self.refuses(NoDeed, diary.undo)
        diary.go(4)
        diary.undo()
        self.refuses(NoDeed, diary.undo)
        self.assertEqual(told(diary), (0, [], []))

    def test_what_is_asked_is_refused_in_order(self):
        diary = diary_with(SMALL, [(3, "psalm", "off")])
        diary.go(7)
        for ask in (diary.sort_on, diary.state, diary.reads, diary.back):
            for name in ("lent", "", "psal", "PSALM"):
                for day in (0, -1):
                    self.refuses(NoRow, ask, name, day)
            for day in (-1, -FAR):
                self.refuses(NoDay, ask, "psalm", day)
                self.refuses(NoDay, ask, "lesson", day)
            # days ahead of today are told too
            ask("psalm", 0)

    def test_lists_that_were_told_may_be_changed(self):
        diary = diary_with(SMALL, [(3, "psalm", "off"), (1, "psalm", "off")])
        ahead = all_tellings(diary, SMALL, DAYS)
        for change in (lambda rows: rows.clear(), lambda rows: rows.append(("go", 5)), lambda rows: rows.reverse()):
            for rows in (diary.singles(), diary.log(), diary.reads("psalm", 4)):
                change(rows)
            self.assertEqual(all_tellings(diary, SMALL, DAYS), ahead)
        diary.undo()
        self.assertEqual(diary.singles(), [(3, "psalm", "off")])


class Undone(unittest.TestCase):
    def test_back_through_all_tellings_and_forwards_again(self):
        chance = random.Random(72)
        for house in [SMALL] + small_houses(6):
            diary, tellings, deeds = Diary(house), [], []
            for again in range(14):
                tellings.append(all_tellings(diary, house, DAYS))
                deed = self.next_deed(chance, house, diary)
                do(diary, deed)
                deeds.append(deed)
            last = all_tellings(diary, house, DAYS)
            for expected in reversed(tellings):
                diary.undo()
                self.assertEqual(all_tellings(diary, house, DAYS), expected)
            self.assertEqual(all_tellings(diary, house, DAYS), all_tellings(Diary(house), house, DAYS))
            for deed, expected in zip(deeds, tellings[1:] + [last]):
                do(diary, deed)
                self.assertEqual(all_tellings(diary, house, DAYS), expected)

    def next_deed(self, chance, house, diary):
        today, standing = diary.today(), [single for single in diary.singles() if single[0] >= diary.today()]
        if standing and chance.random() < 0.3:
            day, name, sort = chance.choice(standing)
            return ("drop", name, day)
        if chance.random() < 0.15:
            return ("go", today + chance.choice((0, 1, 4)))
        return ("put", chance.choice(house.rows()).told()[1], today + chance.randrange(12), chance.choice(SORTS))


class WhatStands(unittest.TestCase):
    def test_not_the_way_to_it(self):
        singles = [(1, "psalm", "free"), (3, "psalm", "off"), (3, "lesson", "off"), (8, "hymn", "rest")]
        straight = all_tellings(diary_with(SMALL, singles), SMALL, DAYS)[3:]
        for order in itertools.permutations(singles):
            self.assertEqual(all_tellings(diary_with(SMALL, order), SMALL, DAYS)[3:], straight)
        diary = Diary(SMALL)
        for day, name, sort in singles[::-1]:
            diary.put(name, day, "rest")
            diary.put(name, day + 1, "off")
            diary.put(name, day, sort)
            diary.undo()
            diary.put(name, day, sort)
            diary.drop(name, day + 1)
            diary.go(0)
        self.assertEqual(all_tellings(diary, SMALL, DAYS)[3:], straight)
        self.assertEqual(diary.singles(), diary_with(SMALL, singles).singles())

    def test_days_put_to_what_they_are(self):
        for house in [SMALL] + list(TIGHT) + small_houses(20):
            days = list(range(2 * house.calendar().turn())) + [10 ** 40, FAR]
            singles = [(day, row.told()[1], house.sort_on(row.told()[1], day)[0]) for day in days for row in house.rows()]
            for chosen in (singles[:20], singles[-20:], singles[::3][:20]):
                diary, put = diary_with(house, chosen), {single[:2] for single in chosen}
                for row in house.rows():
                    name = row.told()[1]
                    for day in days:
                        self.assertEqual(diary.sort_on(name, day)[0], house.sort_on(name, day)[0])
                        self.assertEqual(diary.state(name, day), state(house, name, day))
                        expected = [(lap, piece, own, "" if (own, name) in put else feast)
                                    for lap, piece, own, feast in reads(house, name, day)]
                        self.assertEqual(diary.reads(name, day), expected)

    def test_nothing_of_other_rows_and_of_days_ahead(self):
        for house in [SMALL] + small_houses(15):
            for row in house.rows():
                for day in (0, 3, 17, 10 ** 35):
                    for sort in SORTS:
                        diary, fresh = diary_with(house, [(day, row.told()[1], sort)]), Diary(house)
                        for other in house.rows():
                            name = other.told()[1]
                            asked = DAYS if name != row.told()[1] else [one for one in DAYS + (day,) if one <= day]
                            for one in asked:
                                self.assertEqual(diary.state(name, one), fresh.state(name, one))
                                if one != day or name != row.told()[1]:
                                    self.assertEqual(diary.reads(name, one), fresh.reads(name, one))
                                    self.assertEqual(diary.sort_on(name, one), fresh.sort_on(name, one))

    def test_nothing_of_another_diary_and_of_the_house(self):
        one, other = Diary(SMALL), Diary(SMALL)
        fresh = all_tellings(other, SMALL, DAYS)
        house_told = [(SMALL.sort_on(name, day), state(SMALL, name, day), reads(SMALL, name, day))
                      for name in ("psalm", "lesson") for day in DAYS]
        one.put("psalm", 0, "rest")
        one.put("lesson", 0, "off")
        one.go(4)
        self.assertEqual(all_tellings(other, SMALL, DAYS), fresh)
        self.assertEqual([(SMALL.sort_on(name, day), state(SMALL, name, day), reads(SMALL, name, day))
                          for name in ("psalm", "lesson") for day in DAYS], house_told)
        other.put("psalm", 0, "off")
        self.assertEqual(one.singles(), [(0, "lesson", "off"), (0, "psalm", "rest")])
        one.undo()
        self.assertEqual(other.log(), [("put", "psalm", 0, "off")])

    def test_names_that_are_words_of_the_program(self):
        singles = [(1, 0, "free"), (3, 0, "off"), (4, 1, "off"), (5, 2, "rest"), (6, 1, "rest")]
        names = [row.told()[1] for row in SMALL.rows()]
        expected = diary_with(SMALL, [(day, names[at], sort) for day, at, sort in singles])
        for house in word_houses(SMALL):
            words = [row.told()[1] for row in house.rows()]
            diary = diary_with(house, [(day, words[at], sort) for day, at, sort in singles])
            self.assertEqual(diary.log(), [("put", words[at], day, sort) for day, at, sort in singles])
            for name, word in zip(names, words):
                for day in DAYS:
                    self.assertEqual(diary.state(word, day), expected.state(name, day))
                    self.assertEqual([row[:3] for row in diary.reads(word, day)], [row[:3] for row in expected.reads(name, day)])
                    self.assertEqual(diary.back(word, day), expected.back(name, day))


class OfALog(Refusing):
    def a_log(self):
        return [("put", "psalm", 3, "off"), ("put", "hymn", 9, "rest"), ("go", 2), ("put", "psalm", 3, "rest"),
                ("put", "lesson", FAR, "free"), ("drop", "psalm", 3), ("go", 2), ("put", "psalm", 4, "off"), ("go", 9)]

    def test_cut_at_any_row(self):
        log = self.a_log()
        diary = Diary(SMALL)
        for count in range(len(log) + 1):
            made = diary_of(SMALL, log[:count])
            self.assertIsInstance(made, Diary)
            self.assertEqual(all_tellings(made, SMALL, DAYS), all_tellings(diary, SMALL, DAYS))
            self.assertEqual(made.log(), log[:count])
            if count < len(log):
                do(diary, log[count])

    def test_undone_to_none_left(self):
        log = self.a_log()
        diary = diary_of(SMALL, log)
        for count in reversed(range(len(log))):
            diary.undo()
            self.assertEqual(all_tellings(diary, SMALL, DAYS), all_tellings(diary_of(SMALL, log[:count]), SMALL, DAYS))
        self.refuses(NoDeed, diary.undo)
        self.assertEqual(all_tellings(diary, SMALL, DAYS), all_tellings(Diary(SMALL), SMALL, DAYS))

    def test_one_row_that_cannot_be_done(self):
        log = self.a_log()
        wrong = ((NoRow, ("put", "lent", 99, "off")), (NoRow, ("drop", "psal", -1)), (NoDay, ("put", "psalm", -1, "off")),
                 (NoDay, ("drop", "psalm", -FAR)), (NoDay, ("go", -1)), (NoDeed, ("put", "psalm", 99, "on")),
                 (NoDeed, ("drop", "psalm", 99)))
        for place in range(len(log) + 1):
            for kind, row in wrong:
                self.refuses(kind, diary_of, SMALL, log[:place] + [row] + log[place:])
                # of two the first one comes
                for other_kind, other in wrong:
                    self.refuses(kind, diary_of, SMALL, log[:place] + [row] + log[place:] + [other])
        for place in range(3, len(log) + 1):
            self.refuses(NoDeed, diary_of, SMALL, log[:place] + [("go", 1)] + log[place:])
            self.refuses(NoDeed, diary_of, SMALL, log[:place] + [("put", "psalm", 1, "off")] + log[place:])

    def test_twenty_one_puts(self):
        log = [("put", "psalm", day, "off") for day in range(21)]
        self.refuses(NoDeed, diary_of, SMALL, log)
        self.assertEqual(len(diary_of(SMALL, log[:20]).singles()), 20)

    def test_the_log_handed_in_may_be_changed(self):
        log = self.a_log()
        diary = diary_of(SMALL, log)
        self.assertEqual(log, self.a_log())
        log.clear()
        self.assertEqual(diary.log(), self.a_log())
        diary.undo()
        self.assertEqual(diary.log(), self.a_log()[:-1])

    def test_of_another_diarys_log(self):
        chance = random.Random(73)
        for house in small_houses(10):
            diary = diary_with(house, random_singles(chance, house, 15, 60))
            made = diary_of(house, diary.log())
            self.assertEqual(all_tellings(made, house, DAYS), all_tellings(diary, house, DAYS))
            made.undo()
            self.assertEqual(len(diary.log()), len(made.log()) + 1)


if __name__ == "__main__":
    unittest.main()
