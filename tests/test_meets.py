"""[3] The meeting of two calendars."""

import inspect
import itertools
import math
import time
import unittest

from readround.calendars import Calendar
from readround.errors import NoDay
from readround.meets import meeting
from tests.plain import dates
from tests.refusals import Refusing

FAR = 10 ** 59
SMALL = ([1], [2], [4], [6], [1, 2], [2, 4], [3, 3], [4, 1], [5, 2, 2], [3, 1, 2, 6], [6, 6, 3], [9])


def begins(years, count):
    """The days below count on which a year begins."""
    return {day for day, (year, place) in enumerate(dates(years, count)) if place == 0}


def first_by_walk(one, other, later, day, count):
    """The first meeting from day on among the days below count, by going through both side by side."""
    met = begins(one, count).intersection(later + begin for begin in begins(other, count))
    return min([found for found in met if found >= day], default=None)


class AgainstAWalk(unittest.TestCase):
    def test_every_later_and_day_of_some_turns(self):
        for one, other in itertools.product(SMALL, repeat=2):
            together = math.lcm(sum(one), sum(other))
            for later in range(2 * sum(other) + 2):
                # a whole common turn behind the last day asked for shows all that ever comes
                count = 2 * together + later + 2
                met = begins(one, count).intersection(later + begin for begin in begins(other, count))
                expected = None
                for day in range(count - 1, -1, -1):
                    expected = day if day in met else expected
                    if day <= count - together - 1:
                        told = meeting(Calendar(one), Calendar(other), later, day)
                        self.assertEqual(told, expected, (one, other, later, day))

    def test_far_later_and_day(self):
        for one, other in itertools.product(SMALL, repeat=2):
            together = math.lcm(sum(one), sum(other))
            for later in (0, 1, 5):
                for day in (later, later + 1, later + 7):
                    near = first_by_walk(one, other, later, day, day + together + 1)
                    for turns in (FAR, FAR // together, 10 ** 20 + 7):
                        far = turns * together
                        expected = None if near is None else near + far
                        first, second = Calendar(one), Calendar(other)
                        self.assertEqual(meeting(first, second, later, day + far), expected)
                        # other's years are taken to begin from later on only
                        self.assertEqual(meeting(first, second, later + far, day + far), expected)
                        begun = first_by_walk(one, other, later, later, later + together + 1)
                        expected = None if begun is None else begun + far
                        self.assertEqual(meeting(first, second, later + far, day), expected)


class ByHand(unittest.TestCase):
    def test_day_nought(self):
        self.assertEqual(meeting(Calendar([30]), Calendar([29]), 0, 0), 0)
        self.assertEqual(meeting(Calendar([30]), Calendar([29]), 0, 1), 870)
        self.assertEqual(meeting(Calendar([30]), Calendar([29]), 0, 870), 870)
        self.assertEqual(meeting(Calendar([30]), Calendar([29]), 0, 871), 1740)

    def test_no_year_of_other_ahead_of_later(self):
        # year 2 of one begins on day 8; other would begin there too if its years went back beyond day 20
        self.assertEqual(meeting(Calendar([4]), Calendar([4]), 20, 0), 20)
        self.assertEqual(meeting(Calendar([4]), Calendar([4]), 20, 21), 24)
        self.assertEqual(meeting(Calendar([1]), Calendar([400]), 7, 0), 7)

    def test_none(self):
        self.assertIsNone(meeting(Calendar([2]), Calendar([2]), 1, 0))
        self.assertIsNone(meeting(Calendar([6]), Calendar([4]), 1, 0))
        self.assertIsNone(meeting(Calendar([6, 6]), Calendar([3]), FAR * 3 + 1, FAR))
        self.assertIsNone(meeting(Calendar([400] * 20), Calendar([200] * 20), 199, FAR))


def first_by_years(one, other, later, day):
    """The first meeting from day on, by going through the years of both side by side."""
    begin, other_begin = 0, later
    year, other_year = 0, 0
    while begin < day or begin != other_begin:
        if begin < other_begin or begin == other_begin < day:
            begin += one[year % len(one)]
            year += 1
        else:
            other_begin += other[other_year % len(other)]
            other_year += 1
    return begin


class FarOn(unittest.TestCase):
    def test_millions_of_days_on(self):
        begun = time.monotonic()
        longest = [400] * 19
        farthest = 0
        for last, other_last, later in ((399, 397, 0), (399, 397, 1), (399, 398, 250), (397, 1, 11), (393, 391, 7777)):
            one, other = longest + [last], longest + [other_last]
            day = 8000
            for again in range(4):
                met = meeting(Calendar(one), Calendar(other), later, day)
                self.assertEqual(met, first_by_years(one, other, later, day))
                farthest = max(farthest, met - day)
                day = met + 8000
        self.assertGreater(farthest, 10 ** 6)
        self.assertLess(time.monotonic() - begun, 30)

    def test_the_longest_calendars_that_never_meet(self):
        begun = time.monotonic()
        for day in (0, 1, 10 ** 30, FAR):
            self.assertIsNone(meeting(Calendar([400] * 20), Calendar([398] * 20), 1, day))
            self.assertIsNone(meeting(Calendar([400] * 20), Calendar([200] * 20), 199, day))
        self.assertLess(time.monotonic() - begun, 5)

    def test_meetings_that_lie_very_far_on(self):
        # years without a common divisor: just one meeting in 399 * 400 days
        one, other = Calendar([399]), Calendar([400])
        for later in range(0, 400, 37):
            met = meeting(one, other, later, 0)
            self.assertEqual((met % 399, (met - later) % 400), (0, 0))
            self.assertTrue(later <= met < later + 399 * 400)
            self.assertEqual(meeting(one, other, later, met + 1), met + 399 * 400)
            self.assertEqual(meeting(one, other, later, met + FAR * 399 * 400), met + FAR * 399 * 400)


class Exchanged(unittest.TestCase):
    def test_one_and_other_where_later_is_nought(self):
        for one, other in itertools.product(SMALL + ([400, 399], [365, 365, 365, 366]), repeat=2):
            for day in (0, 1, 5, 30, 10 ** 30, FAR):
                told = meeting(Calendar(one), Calendar(other), 0, day)
                self.assertEqual(told, meeting(Calendar(other), Calendar(one), 0, day))

    def test_a_calendar_with_itself(self):
        calendar = Calendar([5, 2, 2])
        self.assertEqual([meeting(calendar, calendar, 0, day) for day in (0, 1, 5, 6, 8)], [0, 5, 5, 7, 9])


class Refused(Refusing):
    def test_below_nought(self):
        one, other = Calendar([3]), Calendar([4])
        for later, day in ((-1, 0), (0, -1), (-1, -1), (-FAR, FAR), (FAR, -FAR)):
            self.refuses(NoDay, meeting, one, other, later, day)

    def test_also_where_none_comes(self):
        for later, day in ((1, -1), (-1, 1), (-1, 0)):
            self.refuses(NoDay, meeting, Calendar([2]), Calendar([2]), later, day)

    def test_nothing_is_changed(self):
        one, other = Calendar([3, 1]), Calendar([4])
        self.assertEqual(meeting(one, other, 2, 9), meeting(one, other, 2, 9))
        self.refuses(NoDay, meeting, one, other, 0, -1)
        self.assertEqual((one.years(), other.years()), ([3, 1], [4]))

    def test_the_interface(self):
        self.assertEqual(list(inspect.signature(meeting).parameters), ["one", "other", "later", "day"])
        self.assertEqual(meeting(day=1, later=1, other=Calendar([4]), one=Calendar([3])), 9)


if __name__ == "__main__":
    unittest.main()
