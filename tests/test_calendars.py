"""[3] Calendars, and what [0] says of them."""

import inspect
import itertools
import unittest

from readround.books import Book
from readround.calendars import Calendar
from readround.errors import BadCalendar, NoDay
from tests.plain import NO_NUMBERS, dates
from tests.refusals import Refusing

FAR = 10 ** 59
SOME = ([1], [400], [1, 1], [3, 1, 2], [5, 5, 6], [1, 400, 7], [400] * 20, list(range(1, 21)), [2] * 19 + [3])


def small_lists():
    """Every list of 1 to 3 years that have 1 to 4 days."""
    for many in range(1, 4):
        for years in itertools.product((1, 2, 3, 4), repeat=many):
            yield list(years)


class Refused(Refusing):
    def test_how_many_years(self):
        self.refuses(BadCalendar, Calendar, [])
        self.refuses(BadCalendar, Calendar, [1] * 21)
        self.refuses(BadCalendar, Calendar, [400] * 500)
        for many in (1, 20):
            self.assertEqual(Calendar([7] * many).years(), [7] * many)

    def test_how_long_a_year_is(self):
        for size in (1, 400):
            self.assertEqual(Calendar([size]).years(), [size])
            self.assertEqual(Calendar([9, size, 9]).years(), [9, size, 9])
        for size in (0, -1, 401, -400, FAR, -FAR):
            for years in ([size], [size, 9], [9, size], [9] * 19 + [size]):
                self.refuses(BadCalendar, Calendar, years)

    def test_other_things_in_the_place_of_a_number(self):
        for size in NO_NUMBERS:
            for years in ([size], [size, 9], [9, size]):
                self.refuses(BadCalendar, Calendar, years)

    def test_other_things_in_the_place_of_the_list(self):
        for years in ((), (30, 29), {30: 29}, {30}, "30", "", b"ab", None, 0, 30, True, False, range(1, 3),
                      iter([30]), Calendar([30])):
            self.refuses(BadCalendar, Calendar, years)

    def test_days_and_years_below_nought(self):
        calendar = Calendar([3, 1, 2])
        for below in (-1, -2, -6, -7, -FAR):
            for ask in (calendar.long, calendar.first, calendar.at):
                self.refuses(NoDay, ask, below)
        self.assertEqual(calendar, Calendar([3, 1, 2]))

    def test_true_and_false_are_no_days(self):
        calendar = Calendar([3])
        for ask in (calendar.long, calendar.first, calendar.at):
            for day in (True, False):
                self.refuses(NoDay, ask, day)


class Told(unittest.TestCase):
    def test_by_hand(self):
        calendar = Calendar([30, 29, 31])
        self.assertEqual(calendar.years(), [30, 29, 31])
        self.assertEqual(calendar.turn(), 90)
        self.assertEqual([calendar.long(year) for year in range(7)], [30, 29, 31, 30, 29, 31, 30])
        self.assertEqual([calendar.first(year) for year in range(7)], [0, 30, 59, 90, 120, 149, 180])
        self.assertEqual([calendar.at(day) for day in (0, 29, 30, 58, 59, 89, 90, 119, 120)],
                         [(0, 0), (0, 29), (1, 0), (1, 28), (2, 0), (2, 30), (3, 0), (3, 29), (4, 0)])

    def test_each_day_of_the_first_turns(self):
        for years in list(small_lists()) + [list(years) for years in SOME]:
            calendar = Calendar(years)
            self.assertEqual(calendar.years(), years)
            self.assertEqual(calendar.turn(), sum(years))
            first = None
            for day, (year, place) in enumerate(dates(years, 2 * sum(years) + 3)):
                self.assertEqual(calendar.at(day), (year, place))
                if place == 0:
                    first = day
                    self.assertEqual(calendar.first(year), day)
                    self.assertEqual(calendar.long(year), years[year % len(years)])
                self.assertEqual(day, first + place)

    def test_far_days_and_years(self):
        for years in SOME:
            calendar = Calendar(years)
            for turns in (1, 7, 10 ** 9, FAR // sum(years), FAR):
                for year in range(len(years) + 1):
                    far = year + turns * len(years)
                    first = calendar.first(year) + turns * sum(years)
                    self.assertEqual(calendar.first(far), first)
                    self.assertEqual(calendar.long(far), calendar.long(year))
                    self.assertEqual(calendar.at(first), (far, 0))
                    last = first + calendar.long(far) - 1
                    self.assertEqual(calendar.at(last), (far, calendar.long(far) - 1))
                    self.assertEqual(calendar.at(last + 1), (far + 1, 0))

    def test_there_and_back_at_sixty_figures(self):
        for years in SOME:
            calendar = Calendar(years)
            for far in (FAR, FAR + 1, 10 * FAR - 1, 123456789 * 10 ** 51):
                year, place = calendar.at(far)
                self.assertEqual(calendar.first(year) + place, far)
                self.assertLess(place, calendar.long(year))
                self.assertEqual(calendar.at(calendar.first(far)), (far, 0))
                self.assertEqual(calendar.first(far) + calendar.long(far), calendar.first(far + 1))

    def test_kinds(self):
        calendar = Calendar([3, 1])
        self.assertIsInstance(calendar.years(), list)
        self.assertIsInstance(calendar.at(5), tuple)

    def test_the_same_is_told_again(self):
        calendar = Calendar([3, 1, 2])
        for ask in (calendar.years, calendar.turn, lambda: calendar.at(17), lambda: calendar.first(8)):
            self.assertEqual(ask(), ask())

    def test_the_interface(self):
        told = {"__eq__": ["other"], "years": [], "turn": [], "long": ["year"], "first": ["year"], "at": ["day"]}
        for name, names in told.items():
            with self.subTest(name):
                self.assertIn(name, vars(Calendar))
                self.assertEqual(list(inspect.signature(vars(Calendar)[name]).parameters)[1:], names)
        calendar = Calendar(years=[3, 1])
        self.assertEqual((calendar.long(year=1), calendar.first(year=1), calendar.at(day=3)), (1, 3, (1, 0)))


class NothingKeptHangsOnAList(unittest.TestCase):
    def still_as_it_was(self, calendar):
        self.assertEqual(calendar.years(), [3, 1, 2])
        self.assertEqual(calendar.turn(), 6)
        self.assertEqual([calendar.long(year) for year in range(4)], [3, 1, 2, 3])
        self.assertEqual([calendar.first(year) for year in range(4)], [0, 3, 4, 6])
        self.assertEqual([calendar.at(day) for day in (2, 3, 5, 6)], [(0, 2), (1, 0), (2, 1), (3, 0)])
        self.assertEqual(calendar, Calendar([3, 1, 2]))

    def test_the_list_handed_in(self):
        handed = [3, 1, 2]
        calendar = Calendar(handed)
        handed[0] = 99
        handed.append(5)
        self.still_as_it_was(calendar)
        handed.clear()
        self.still_as_it_was(calendar)

    def test_the_list_told(self):
        calendar = Calendar([3, 1, 2])
        told = calendar.years()
        told[0] = 99
        told.append(5)
        self.still_as_it_was(calendar)
        told.clear()
        self.still_as_it_was(calendar)

    def test_the_list_handed_in_is_left_as_it_was(self):
        handed = [3, 1, 2]
        Calendar(handed).years().clear()
        self.assertEqual(handed, [3, 1, 2])


class Equal(unittest.TestCase):
    def test_just_where_the_years_are_alike(self):
        lists = list(small_lists())
        for one in lists:
            for other in lists:
                self.assertIs(Calendar(one) == Calendar(other), one == other)
                self.assertIs(Calendar(one) != Calendar(other), one != other)

    def test_a_turn_gone_twice_is_unlike(self):
        self.assertNotEqual(Calendar([3]), Calendar([3, 3]))

    def test_things_of_other_kinds_are_unlike(self):
        calendar = Calendar([3])
        for other in ([3], (3,), None, 3, "3", object(), Book([(3, False)])):
            self.assertIs(calendar == other, False)
            self.assertIs(other == calendar, False)
            self.assertIs(calendar != other, True)


if __name__ == "__main__":
    unittest.main()
