"""[10] Plans, and what [0] says of them."""

import inspect
import itertools
import random
import time
import unittest

from readround import plans
from readround.books import Book
from readround.calendars import Calendar
from readround.cuts import is_cut
from readround.errors import BadNumber, NoDay, TooTight
from readround.plans import least_more, plan, years_for
from tests.plain import NO_NUMBERS, dates
from tests.refusals import Refusing
from tests.samples import LONGEST, MIXED, blocks_by_search, small_books

FAR = 10 ** 59
GREATEST = 10 ** 14
BOOK = Book(MIXED)
SIXTY = Book([(LONGEST, False)] * 60)
NO_LIMITS = ([], [1] * 31, (20,), (), None, 20, "20", {20: 20}, [-1], [GREATEST + 1], [20, -1], [20, GREATEST + 1, 20],
             [20, -FAR], [FAR], [[20]], [20, None], [(20, 20)])


def size_of(book, first, end):
    return sum(size for size, tied in book.sections()[first:end])


def by_words(book, limits, day):
    """Each day reads as many blocks of those that are left as its limit lets."""
    left, told = blocks_by_search(book), []
    while left:
        fitting = [count for count in range(1, len(left) + 1)
                   if size_of(book, left[0][0], left[count - 1][1]) <= limits[day % len(limits)]]
        if fitting:
            told.append((day, left[0][0], left[fitting[-1] - 1][1]))
            left = left[fitting[-1]:]
        day += 1
    return told


def reached_by_any_plan(book, limits, day, count):
    """For each of count days, all sections that any plan can have come to at its end."""
    blocks = blocks_by_search(book)
    stops = [0] + [end for first, end in blocks]
    reached, told = {0}, []
    for at in range(day, day + count):
        reached = {end for first in reached for end in stops
                   if end >= first and size_of(book, first, end) <= limits[at % len(limits)]}
        told.append(reached)
    return told


def longest(book):
    return max(size_of(book, first, end) for first, end in blocks_by_search(book))


def some_limits(chance, book, count):
    """Limits with which the plan can be made."""
    limits = [chance.randrange(0, longest(book) * 2 + 1) for again in range(count)]
    limits[chance.randrange(count)] = chance.randrange(longest(book), longest(book) * 3 + 1)
    return limits


class Plan(unittest.TestCase):
    def test_by_hand(self):
        # blocks of 3, 7 and 4
        self.assertEqual(plan(BOOK, [14], 0), [(0, 0, 4)])
        self.assertEqual(plan(BOOK, [13], 5), [(5, 0, 3), (6, 3, 4)])
        self.assertEqual(plan(BOOK, [7], 0), [(0, 0, 1), (1, 1, 3), (2, 3, 4)])
        self.assertEqual(plan(BOOK, [2, 3, 6, 7], 0), [(1, 0, 1), (3, 1, 3), (6, 3, 4)])
        self.assertEqual(plan(BOOK, [2, 3, 6, 7], 3), [(3, 0, 1), (7, 1, 3), (10, 3, 4)])
        self.assertEqual(plan(BOOK, [0, 0, 14], 3 * FAR), [(3 * FAR + 2, 0, 4)])

    def test_against_the_words(self):
        chance = random.Random(2)
        for book in small_books():
            for count in (1, 2, 3, 7, 30):
                limits, day = some_limits(chance, book, count), chance.choice((0, 1, 5, 29, 30, 10 ** 30 - 3, FAR + 7))
                self.assertEqual(plan(book, limits, day), by_words(book, limits, day))

    def test_it_is_a_plan(self):
        chance = random.Random(3)
        for book in itertools.islice(small_books(), 0, None, 5):
            limits, day = some_limits(chance, book, chance.randint(1, 5)), chance.randrange(50)
            told = plan(book, limits, day)
            self.assertTrue(is_cut(book, [(first, end) for at, first, end in told]))
            days = [at for at, first, end in told]
            self.assertEqual(days, sorted(set(days)))
            self.assertGreaterEqual(days[0], day)
            for at, first, end in told:
                self.assertLessEqual(size_of(book, first, end), limits[at % len(limits)])

    def test_no_other_plan_comes_further(self):
        chance = random.Random(6)
        for book in itertools.islice(small_books(), 0, None, 3):
            limits, day = some_limits(chance, book, chance.randint(1, 4)), chance.randrange(9)
            told = plan(book, limits, day)
            count = told[-1][0] - day + 1
            for at, reached in zip(range(day, day + count), reached_by_any_plan(book, limits, day, count)):
                self.assertEqual(max([0] + [end for one, first, end in told if one <= at]), max(reached))

    def test_the_edges_of_limits(self):
        self.assertEqual(plan(BOOK, [0] * 29 + [7], 0), [(29, 0, 1), (59, 1, 3), (89, 3, 4)])
        self.assertEqual(plan(BOOK, [GREATEST], 0), [(0, 0, 4)])
        self.assertEqual(plan(BOOK, [GREATEST] * 30, 7), [(7, 0, 4)])

    def test_books_of_sixty_sections(self):
        self.assertEqual(plan(SIXTY, [LONGEST], 0), [(at, at, at + 1) for at in range(60)])
        self.assertEqual(plan(SIXTY, [0] * 29 + [LONGEST], 1), [(30 * at + 29, at, at + 1) for at in range(60)])
        self.assertEqual(plan(SIXTY, [GREATEST], 10 ** 60), [(10 ** 60, 0, 60)])
        tied = Book([(LONGEST, True)] * 59 + [(LONGEST, False)])
        self.assertEqual(plan(tied, [0, 60 * LONGEST, 0], 5), [(7, 0, 60)])

    def test_a_block_just_as_long_as_the_greatest_limit(self):
        self.assertEqual(plan(BOOK, [0, 7, 6], 2), [(2, 0, 1), (4, 1, 3), (5, 3, 4)])

    def test_kinds(self):
        told = plan(BOOK, [7], 3)
        self.assertIsInstance(told, list)
        for row in told:
            self.assertIsInstance(row, tuple)

    def test_what_was_handed_in_and_told_may_be_changed(self):
        limits = [7, 3]
        told = plan(BOOK, limits, 0)
        self.assertEqual(limits, [7, 3])
        limits[0] = 100
        expected = list(told)
        told.clear()
        self.assertEqual(plan(BOOK, [7, 3], 0), expected)
        self.assertEqual(BOOK, Book(MIXED))


class YearsFor(unittest.TestCase):
    def test_by_hand(self):
        # the plan has the days day, day + 1 and day + 2
        calendar = Calendar([3, 1, 5])
        self.assertEqual([years_for(BOOK, [7], calendar, day) for day in range(10)], [1, 2, 3, 2, 1, 1, 1, 2, 2, 1])
        self.assertEqual([years_for(BOOK, [7], calendar, 9 * FAR + day) for day in range(4)], [1, 2, 3, 2])

    def test_from_the_year_of_the_day_not_of_the_first_reading(self):
        self.assertEqual(years_for(BOOK, [0, 0, 14], Calendar([2]), 0), 2)
        self.assertEqual(years_for(BOOK, [0, 0, 14], Calendar([1]), 0), 3)

    def test_against_a_walk(self):
        chance = random.Random(8)
        for years in ([1], [400], [1] * 20, [400] * 20, [3, 1, 5], [2, 7], [chance.randint(1, 12) for year in range(20)]):
            calendar, walked = Calendar(years), dates(years, 12000)
            for book in itertools.islice(small_books(), 0, None, 29):
                limits = some_limits(chance, book, chance.randint(1, 9))
                for day in (0, sum(years) - 1, sum(years), chance.randrange(9000)):
                    last = plan(book, limits, day)[-1][0]
                    self.assertEqual(years_for(book, limits, calendar, day), walked[last][0] - walked[day][0] + 1)

    def test_far_away(self):
        for more in (10 ** 30, FAR):
            self.assertEqual(years_for(SIXTY, [LONGEST], Calendar([1]), more), 60)
            self.assertEqual(years_for(SIXTY, [LONGEST], Calendar([400] * 20), 8000 * more + 399), 2)
            self.assertEqual(years_for(SIXTY, [0] * 29 + [LONGEST], Calendar([400] * 20), 8000 * 30 * more), 5)


class LeastMore(unittest.TestCase):
    def test_by_hand(self):
        # blocks of 3, 7 and 4
        self.assertEqual([least_more(BOOK, [0], days) for days in (1, 2, 3, 4, FAR)], [14, 10, 7, 7, 7])
        self.assertEqual([least_more(BOOK, [3, 6], days) for days in (1, 2, 3, 4, 5, 6, FAR)], [11, 5, 1, 1, 1, 1, 1])
        self.assertEqual([least_more(BOOK, [20], days) for days in (1, 2, FAR)], [0, 0, 0])

    def test_against_all_numbers(self):
        chance = random.Random(12)
        for book in itertools.islice(small_books(), 0, None, 4):
            limits = [chance.randrange(0, 9) for again in range(chance.randint(1, 4))]
            for days in (1, 2, 3, 5, 50):
                self.assertEqual(least_more(book, limits, days), self.by_trying(book, limits, days))

    def by_trying(self, book, limits, days):
        for more in range(1000):
            added = [limit + more for limit in limits]
            if max(added) >= longest(book) and by_words(book, added, 0)[-1][0] < days:
                return more

    def test_against_plans_with_it_and_with_one_less(self):
        chance = random.Random(14)
        for again in range(60):
            sections = [(chance.randint(1, LONGEST), chance.random() < 0.3) for section in range(chance.randint(1, 60))]
            book = Book(sections[:-1] + [(sections[-1][0], False)])
            limits = [chance.randrange(0, LONGEST * 2) for limit in range(chance.randint(1, 30))]
            for days in (1, 2, 7, 30, 1000):
                more = least_more(book, limits, days)
                self.assertLess(plan(book, [limit + more for limit in limits], 0)[-1][0], days)
                if more > 0:
                    less = [limit + more - 1 for limit in limits]
                    self.assertTrue(max(less) < longest(book) or plan(book, less, 0)[-1][0] >= days)

    def test_limits_beyond_the_greatest(self):
        book = Book([(LONGEST, True)] * 59 + [(LONGEST, False)])
        self.assertEqual(least_more(book, [0, GREATEST], 1), 60 * LONGEST)
        self.assertEqual(least_more(book, [0, GREATEST], 2), 0)
        self.assertEqual(least_more(book, [GREATEST - 1], 1), 0)

    def test_no_too_tight(self):
        self.assertEqual(least_more(BOOK, [6], FAR), 1)
        self.assertEqual(least_more(BOOK, [0], FAR), 7)

    def test_books_of_sixty_sections_without_a_long_wait(self):
        begun = time.monotonic()
        for limits in ([0], [0] * 30):
            self.assertEqual(least_more(SIXTY, limits, 1), 60 * LONGEST)
            self.assertEqual(least_more(SIXTY, limits, 7), 9 * LONGEST)
            self.assertEqual([least_more(SIXTY, limits, days) for days in (59, 60, 61, FAR)], [2 * LONGEST] + [LONGEST] * 3)
        self.assertEqual(least_more(SIXTY, [LONGEST] + [0] * 29, 1740), self.one_day_in_thirty(1740))
        self.assertLess(time.monotonic() - begun, 20)

    def one_day_in_thirty(self, days):
        """The same where only one day in thirty has room, by halving over the plan of the words."""
        low, high = 0, 60 * LONGEST
        while low < high:
            middle = (low + high) // 2
            if by_words(SIXTY, [LONGEST + middle] + [middle] * 29, 0)[-1][0] < days:
                high = middle
            else:
                low = middle + 1
        return low

    def test_the_limits_stay(self):
        limits = [3, 6]
        self.assertEqual(least_more(BOOK, limits, 2), 5)
        self.assertEqual(limits, [3, 6])
        limits.append(9)
        self.assertEqual(least_more(BOOK, [3, 6], 2), 5)


class Refused(Refusing):
    def test_limits(self):
        for limits in NO_LIMITS:
            self.refuses(BadNumber, plan, BOOK, limits, 0)
            self.refuses(BadNumber, years_for, BOOK, limits, Calendar([5]), 0)
            self.refuses(BadNumber, least_more, BOOK, limits, 5)
        for wrong in NO_NUMBERS:
            for limits in ([wrong], [20, wrong], [wrong, 20], [20] * 29 + [wrong]):
                self.refuses(BadNumber, plan, BOOK, limits, 0)
                self.refuses(BadNumber, years_for, BOOK, limits, Calendar([5]), 0)
                self.refuses(BadNumber, least_more, BOOK, limits, 5)

    def test_days(self):
        for day in (-1, -2, -FAR):
            self.refuses(NoDay, plan, BOOK, [20], day)
            self.refuses(NoDay, years_for, BOOK, [20], Calendar([5]), day)
        for days in (0, -1, -FAR):
            self.refuses(BadNumber, least_more, BOOK, [20], days)
            self.refuses(BadNumber, least_more, BOOK, [], days)

    def too_tight(self, call, *told):
        with self.assertRaises(TooTight) as caught:
            call(*told)
        self.assertEqual(type(caught.exception), TooTight)
        return caught.exception.block

    def test_too_tight(self):
        for limits, block in (([6], 1), ([6, 3, 0], 1), ([2], 0), ([0], 0), ([0] * 30, 0)):
            self.assertEqual(self.too_tight(plan, BOOK, limits, 0), block)
            self.assertEqual(self.too_tight(plan, BOOK, limits, FAR), block)
            self.assertEqual(self.too_tight(years_for, BOOK, limits, Calendar([5]), 3), block)
        book = Book([(1, False), (3, True), (3, False), (2, False), (9, False)])
        self.assertEqual([self.too_tight(plan, book, [limit], 0) for limit in (0, 1, 5, 6, 8)], [0, 1, 1, 4, 4])
        self.assertEqual(self.too_tight(plan, Book([(LONGEST, True)] * 59 + [(LONGEST, False)]), [60 * LONGEST - 1], 0), 0)

    def test_in_order(self):
        self.refuses(BadNumber, plan, BOOK, [0, -1], -1)
        self.refuses(BadNumber, years_for, BOOK, [], Calendar([5]), -1)
        self.refuses(NoDay, plan, BOOK, [0], -1)
        self.refuses(NoDay, years_for, BOOK, [0], Calendar([5]), -1)

    def test_the_interface(self):
        told = {"plan": ["book", "limits", "day"], "years_for": ["book", "limits", "calendar", "day"],
                "least_more": ["book", "limits", "days"]}
        for name, names in told.items():
            with self.subTest(name):
                self.assertEqual(list(inspect.signature(getattr(plans, name)).parameters), names)


if __name__ == "__main__":
    unittest.main()
