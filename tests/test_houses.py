"""[6] Houses, turn_sheet of [12], and what [0] says of them."""

import inspect
import itertools
import time
import unittest

from readround import houses
from readround.calendars import Calendar
from readround.errors import BadHouse, NeverDone, NoDay, NoRow
from readround.feasts import Feast
from readround.houses import House, turn_sheet
from readround.rows import Going, Row, Yearly
from tests.refusals import Refusing
from tests.sample_houses import ASLEEP, FAR, FEAST_NAMES, ROW_NAMES, TIGHT, Walked, great_house, small_houses

CALENDAR = Calendar([5, 4])
PSALM = Going("psalm", 3, 2)
LESSON = Yearly("lesson", 3, 1)
LENT = Feast("lent", 1, 2, None, [("psalm", "off")])


class Refused(Refusing):
    def test_how_many_feasts(self):
        feasts = [Feast(name, 0) for name in FEAST_NAMES]
        for many in (0, 1, 8):
            self.assertEqual(House(CALENDAR, feasts[:many], [PSALM]).feasts(), feasts[:many])
        self.refuses(BadHouse, House, CALENDAR, feasts + [Feast("more", 0)], [PSALM])

    def test_how_many_rows(self):
        rows = [Going("a", 1, 1), Yearly("b", 1, 1), Going("c", 1, 1), Yearly("d", 1, 1)]
        for many in (1, 2, 4):
            self.assertEqual(House(CALENDAR, [], rows[:many]).rows(), rows[:many])
        self.refuses(BadHouse, House, CALENDAR, [], [])
        self.refuses(BadHouse, House, CALENDAR, [], rows + [Going("e", 1, 1)])

    def test_two_of_one_name(self):
        self.refuses(BadHouse, House, CALENDAR, [LENT, Feast("lent", 3)], [PSALM])
        self.refuses(BadHouse, House, CALENDAR, [LENT, Feast("paul", 3), LENT], [PSALM])
        self.refuses(BadHouse, House, CALENDAR, [], [PSALM, PSALM])
        self.refuses(BadHouse, House, CALENDAR, [], [PSALM, LESSON, Going("psalm", 9, 9)])
        self.refuses(BadHouse, House, CALENDAR, [], [PSALM, Yearly("psalm", 3, 2)])

    def test_a_feast_and_a_row_of_one_name(self):
        feast = Feast("psalm", 1, 1, None, [("psalm", "off")])
        house = House(CALENDAR, [feast], [PSALM])
        self.assertEqual((house.feasts(), house.rows()), ([feast], [PSALM]))
        self.assertEqual(house.sort_on("psalm", 1), ("off", "psalm"))

    def test_years_that_the_calendar_has_not(self):
        for sizes in ([5], [5, 4], [5] * 19, [5] * 20):
            calendar, last = Calendar(sizes), len(sizes) - 1
            for years in ([last], list(range(last + 1)), None):
                self.assertEqual(len(House(calendar, [Feast("lent", 0, 1, years)], [PSALM]).feasts()), 1)
            for years in ([last + 1], [0, last + 1], [19]):
                if years[-1] in range(last + 1, 20):
                    self.refuses(BadHouse, House, calendar, [Feast("lent", 0, 1, years)], [PSALM])
                    self.refuses(BadHouse, House, calendar, [LENT, Feast("paul", 0, 1, years)], [PSALM])

    def test_puts_of_no_row(self):
        for puts in ([("lesson", "off")], [("psalm", "off"), ("lesson", "rest")], [("lent", "off")]):
            self.refuses(BadHouse, House, CALENDAR, [Feast("lent", 0, 1, None, puts)], [PSALM])
            self.refuses(BadHouse, House, CALENDAR, [LENT, Feast("paul", 0, 1, None, puts)], [PSALM])
        puts = [("psalm", "off"), ("lesson", "rest")]
        self.assertEqual(len(House(CALENDAR, [Feast("lent", 0, 1, None, puts)], [PSALM, LESSON]).rows()), 2)

    def test_other_things_in_the_place_of_the_calendar(self):
        for calendar in (None, [5, 4], (5, 4), 5, True, "calendar", LENT, PSALM, [CALENDAR]):
            self.refuses(BadHouse, House, calendar, [LENT], [PSALM])

    def test_other_things_in_the_place_of_the_feasts(self):
        for feasts in (None, (), (LENT,), {"lent": LENT}, LENT, "", "lent", 0, True, iter([LENT])):
            self.refuses(BadHouse, House, CALENDAR, feasts, [PSALM])
        for feast in (None, "lent", LENT.told(), 1, PSALM, CALENDAR, [LENT]):
            self.refuses(BadHouse, House, CALENDAR, [feast], [PSALM])
            self.refuses(BadHouse, House, CALENDAR, [LENT, feast], [PSALM])

    def test_other_things_in_the_place_of_the_rows(self):
        for rows in (None, (PSALM,), {"psalm": PSALM}, PSALM, "", "psalm", 1, True, iter([PSALM])):
            self.refuses(BadHouse, House, CALENDAR, [], rows)
        for row in (None, "psalm", PSALM.told(), 1, LENT, CALENDAR, [PSALM], Row()):
            self.refuses(BadHouse, House, CALENDAR, [], [row])
            self.refuses(BadHouse, House, CALENDAR, [], [LESSON, row])

    def test_bad_house_comes_ahead_of_never_done(self):
        always_off = Feast("lent", 0, 40, None, [("psalm", "off")])
        self.refuses(NeverDone, House, CALENDAR, [always_off], [PSALM])
        self.refuses(BadHouse, House, CALENDAR, [always_off, Feast("paul", 0, 1, [2])], [PSALM])
        self.refuses(BadHouse, House, CALENDAR, [always_off, Feast("paul", 0, 1, None, [("hymn", "off")])], [PSALM])
        self.refuses(BadHouse, House, CALENDAR, [always_off, always_off], [PSALM])
        self.refuses(BadHouse, House, CALENDAR, [always_off], [PSALM, PSALM])
        self.refuses(BadHouse, House, CALENDAR, [always_off], [PSALM, None])


class NeverDoneRows(Refusing):
    def never_done(self, name, due, room, *told):
        with self.assertRaises(NeverDone) as caught:
            House(*told)
        self.assertEqual(type(caught.exception), NeverDone)
        self.assertEqual((caught.exception.name, caught.exception.due, caught.exception.room), (name, due, room))

    def test_just_where_due_is_beyond_room(self):
        for size, off, rest, most in itertools.product(range(1, 8), range(5), range(4), (1, 2, 3, 9)):
            feasts = []
            if off:
                feasts.append(Feast("lent", 0, off, None, [("psalm", "off")]))
            if rest:
                feasts.append(Feast("paul", -1, rest, None, [("psalm", "rest")]))
            sorts = ["off" if place < off else "free" for place in range(size)]
            # from the last place on there is room for one day only
            sorts[-1] = "rest" if rest else sorts[-1]
            due, room = size - sorts.count("rest"), most * sorts.count("free")
            row = Going("psalm", 7, most)
            if due > room:
                self.never_done("psalm", due, room, Calendar([size]), feasts, [row])
            else:
                self.assertEqual(House(Calendar([size]), feasts, [row]).rows(), [row])
            self.assertEqual(len(House(Calendar([size]), feasts, [Yearly("psalm", 7, most)]).rows()), 1)

    def test_all_years_of_a_turn_count(self):
        feast = Feast("lent", 0, 4, [1], [("psalm", "off")])
        self.never_done("psalm", 9, 5, Calendar([5, 4]), [feast], [Going("psalm", 3, 1)])
        self.assertEqual(len(House(Calendar([5, 4]), [feast], [Going("psalm", 3, 2)]).rows()), 1)
        self.never_done("psalm", 8, 6, Calendar([3, 5]), [Feast("lent", 0, 5, [1], [("psalm", "off")])], [PSALM])

    def test_the_first_such_row(self):
        off = [Feast("lent", 0, 40, None, [("a", "off"), ("b", "off"), ("c", "off")])]
        one, two, three = Going("a", 3, 1), Going("b", 3, 9), Going("c", 3, 5)
        self.never_done("a", 9, 0, CALENDAR, off, [one, two, three])
        self.never_done("b", 9, 0, CALENDAR, off, [two, one, three])
        self.never_done("c", 9, 0, CALENDAR, off, [Yearly("a", 1, 1), three, two])
        part = [Feast("lent", 0, 2, None, [("a", "off"), ("b", "off"), ("c", "off")])]
        self.never_done("a", 9, 5, CALENDAR, part, [two, three, one])

    def test_a_row_at_rest_is_made(self):
        self.assertEqual(len(ASLEEP.rows()), 3)

    def test_tight_houses_are_made(self):
        for house in TIGHT:
            walked = Walked(house, 1)
            row = house.rows()[0]
            free = [sort for sort, feast in walked.marks["psalm"]].count("free")
            self.assertEqual(walked.due_in_turn("psalm"), row.told()[3] * free)


class Told(Refusing):
    def test_what_was_handed_in(self):
        paul = Feast("paul", 0)
        house = House(CALENDAR, [paul, LENT], [LESSON, PSALM])
        self.assertEqual(house.calendar(), CALENDAR)
        self.assertEqual(house.feasts(), [paul, LENT])
        self.assertEqual(house.rows(), [LESSON, PSALM])
        self.assertEqual((house.row("psalm"), house.row("lesson")), (PSALM, LESSON))
        self.assertIsInstance(house.feasts(), list)
        self.assertIsInstance(house.rows(), list)

    def test_no_row(self):
        house = House(CALENDAR, [LENT], [PSALM])
        for name in ("lesson", "lent", "", "Psalm", "psalm ", "psal"):
            self.refuses(NoRow, house.row, name)
            self.refuses(NoRow, house.sort_on, name, 0)
            self.refuses(NoRow, turn_sheet, house, name)

    def test_no_row_comes_ahead_of_no_day(self):
        house = House(CALENDAR, [LENT], [PSALM])
        for below in (-1, -FAR):
            self.refuses(NoDay, house.sort_on, "psalm", below)
            self.refuses(NoRow, house.sort_on, "hymn", below)

    def test_the_interface(self):
        told = {"calendar": [], "feasts": [], "rows": [], "row": ["name"], "sort_on": ["name", "day"]}
        for name, names in told.items():
            with self.subTest(name):
                self.assertIn(name, vars(House))
                self.assertEqual(list(inspect.signature(vars(House)[name]).parameters)[1:], names)
        self.assertEqual(list(inspect.signature(houses.turn_sheet).parameters), ["house", "name"])
        house = House(rows=[PSALM], feasts=[LENT], calendar=CALENDAR)
        self.assertEqual(house.sort_on(day=1, name="psalm"), ("off", "lent"))
        self.assertEqual(house.row(name="psalm"), PSALM)
        self.assertEqual(len(turn_sheet(name="psalm", house=house)), 5)


class NothingKeptHangsOnAList(unittest.TestCase):
    def still_as_it_was(self, house):
        self.assertEqual(house.calendar(), CALENDAR)
        self.assertEqual(house.feasts(), [LENT])
        self.assertEqual(house.rows(), [PSALM, LESSON])
        self.assertEqual(house.row("lesson"), LESSON)
        self.assertEqual(house.sort_on("psalm", 2), ("off", "lent"))
        self.assertEqual(turn_sheet(house, "psalm")[:2], [(0, 1, "free", ""), (1, 2, "off", "lent")])

    def test_the_lists_handed_in(self):
        feasts, rows = [LENT], [PSALM, LESSON]
        house = House(CALENDAR, feasts, rows)
        feasts[0] = Feast("paul", 0, 3, None, [("psalm", "rest")])
        feasts.append(LENT)
        rows.reverse()
        rows.append(Going("hymn", 1, 1))
        self.still_as_it_was(house)
        feasts.clear()
        rows.clear()
        self.still_as_it_was(house)

    def test_the_lists_told(self):
        house = House(CALENDAR, [LENT], [PSALM, LESSON])
        for ask in (house.feasts, house.rows, lambda: turn_sheet(house, "psalm"), house.calendar().years):
            told = ask()
            told.reverse()
            told.append(None)
            self.still_as_it_was(house)
            told.clear()
            self.still_as_it_was(house)

    def test_lists_within_what_was_handed_in(self):
        years, puts = [0, 1], [("psalm", "off")]
        feast = Feast("lent", 1, 2, years, puts)
        sizes = [5, 4]
        house = House(Calendar(sizes), [feast], [PSALM])
        for handed in (years, puts, sizes, feast.told()[3], feast.told()[4]):
            handed.clear()
        self.assertEqual(house.sort_on("psalm", 2), ("off", "lent"))
        self.assertEqual(house.feasts()[0].told(), ("lent", 1, 2, [0, 1], [("psalm", "off")]))


class Sorts(unittest.TestCase):
    def sorts(self, house, name, count):
        return [house.sort_on(name, day) for day in range(count)]

    def test_rest_goes_ahead_of_off(self):
        first = Feast("lent", 0, 3, None, [("psalm", "off")])
        second = Feast("paul", 1, 3, None, [("psalm", "rest")])
        expected = [("off", "lent"), ("rest", "paul"), ("rest", "paul"), ("rest", "paul"), ("free", "")]
        for feasts in ([first, second], [second, first]):
            self.assertEqual(self.sorts(House(Calendar([5]), feasts, [Going("psalm", 3, 9)]), "psalm", 5), expected)

    def test_the_first_feast_in_order_that_does_so(self):
        first = Feast("lent", 0, 3, None, [("psalm", "off"), ("hymn", "rest")])
        second = Feast("paul", 1, 3, None, [("psalm", "off"), ("hymn", "off")])
        third = Feast("peter", 2, 3, None, [("psalm", "rest"), ("hymn", "rest")])
        rows = [Yearly("psalm", 3, 9), Yearly("hymn", 3, 9), Yearly("lesson", 3, 9)]
        house = House(Calendar([6]), [first, second, third], rows)
        self.assertEqual(self.sorts(house, "psalm", 6), [("off", "lent"), ("off", "lent"), ("rest", "peter"),
                                                         ("rest", "peter"), ("rest", "peter"), ("free", "")])
        self.assertEqual(self.sorts(house, "hymn", 6), [("rest", "lent"), ("rest", "lent"), ("rest", "lent"),
                                                        ("rest", "peter"), ("rest", "peter"), ("free", "")])
        self.assertEqual(self.sorts(house, "lesson", 6), [("free", "")] * 6)
        house = House(Calendar([6]), [third, second, first], rows)
        self.assertEqual(self.sorts(house, "psalm", 2), [("off", "lent"), ("off", "paul")])
        self.assertEqual(self.sorts(house, "hymn", 3), [("rest", "lent"), ("rest", "lent"), ("rest", "peter")])

    def test_a_years_end_and_years_left_out(self):
        feasts = [Feast("lent", -1, 5, [0], [("psalm", "off")]), Feast("paul", 2, 1, None, [("psalm", "rest")])]
        house = House(Calendar([3, 2]), feasts, [Yearly("psalm", 3, 2)])
        free, paul = ("free", ""), ("rest", "paul")
        self.assertEqual(self.sorts(house, "psalm", 10), [free, free, paul, free, free] * 2)
        house = House(Calendar([4, 2]), feasts, [Yearly("psalm", 3, 2)])
        self.assertEqual(self.sorts(house, "psalm", 7), [free, free, paul, ("off", "lent"), free, free, free])

    def test_against_the_words_of_the_document(self):
        for house in small_houses(150):
            walked = Walked(house, 3)
            for name in walked.marks:
                for day in range(walked.days):
                    self.assertEqual(house.sort_on(name, day), walked.marks[name][day])
                    for turns in (FAR, 10 ** 30):
                        self.assertEqual(house.sort_on(name, day + turns * walked.turn), walked.marks[name][day])

    def test_kinds(self):
        self.assertIsInstance(House(CALENDAR, [LENT], [PSALM]).sort_on("psalm", 1), tuple)


class TurnSheet(unittest.TestCase):
    def test_by_hand(self):
        house = House(CALENDAR, [LENT], [PSALM, LESSON])
        self.assertEqual(turn_sheet(house, "psalm"), [(0, 1, "free", ""), (1, 2, "off", "lent"), (3, 3, "free", ""),
                                                      (6, 2, "off", "lent"), (8, 1, "free", "")])
        self.assertEqual(turn_sheet(house, "lesson"), [(0, 9, "free", "")])

    def test_a_feasts_name_parts_two_stretches(self):
        feasts = [Feast("lent", 0, 2, None, [("psalm", "off")]), Feast("paul", 1, 2, None, [("psalm", "off")])]
        house = House(Calendar([6]), feasts, [PSALM])
        self.assertEqual(turn_sheet(house, "psalm"), [(0, 2, "off", "lent"), (2, 1, "off", "paul"), (3, 3, "free", "")])

    def test_one_feast_over_a_years_end_is_one_stretch(self):
        feasts = [Feast("lent", 0, 40, [0, 1], [("psalm", "rest")])]
        house = House(Calendar([3, 2, 4]), feasts, [PSALM])
        self.assertEqual(turn_sheet(house, "psalm"), [(0, 5, "rest", "lent"), (5, 4, "free", "")])
        # the same feast on the last day of a turn and the first of the next one: a sheet tells one turn alone
        house = House(Calendar([3, 2, 4]), [Feast("lent", 0, 40, [0, 2], [("psalm", "rest")])], [PSALM])
        self.assertEqual(turn_sheet(house, "psalm"), [(0, 3, "rest", "lent"), (3, 2, "free", ""), (5, 4, "rest", "lent")])

    def test_against_the_sort_of_each_day(self):
        for house in small_houses(150):
            walked = Walked(house, 1)
            for name, marks in walked.marks.items():
                expected, day = [], 0
                for mark, days in itertools.groupby(marks):
                    many = len(list(days))
                    expected.append((day, many) + mark)
                    day += many
                self.assertEqual(turn_sheet(house, name), expected)
                self.assertEqual(day, walked.turn)

    def test_kinds(self):
        told = turn_sheet(House(CALENDAR, [LENT], [PSALM]), "psalm")
        self.assertIsInstance(told, list)
        for stretch in told:
            self.assertIsInstance(stretch, tuple)


class Great(unittest.TestCase):
    def test_without_a_long_wait(self):
        begun = time.monotonic()
        for again in range(20):
            house = great_house()
        for name in ROW_NAMES:
            sheet = turn_sheet(house, name)
            self.assertEqual(sum(days for first, days, sort, feast in sheet), 8000)
            for first, days, sort, feast in sheet:
                for day in (first, first + days - 1, first + FAR * 8000):
                    self.assertEqual(house.sort_on(name, day), (sort, feast))
        self.assertLess(time.monotonic() - begun, 20)


if __name__ == "__main__":
    unittest.main()
