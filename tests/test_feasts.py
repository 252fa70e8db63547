"""[4] Feasts, and what [0] says of them."""

import inspect
import itertools
import time
import unittest

from readround.calendars import Calendar
from readround.errors import BadFeast, NoDay
from readround.feasts import Feast
from tests.plain import NO_NUMBERS, dates, kept
from tests.refusals import Refusing

FAR = 10 ** 59
NO_NAMES = ("", "abcdefghi", "A", "aB", "a b", " a", "a\n", "a1", "_", "a-b", "`", "{", "\u00e4", "\u00df", b"a",
            None, 1, True, ["a"], ("a",))
LISTS = ([4], [1], [5, 3], [2, 6, 1], [7, 7, 8, 1])
PUTS = [("psalm", "off"), ("lesson", "rest")]


def some_feasts(places, days, years):
    for place, many, chosen in itertools.product(places, days, years):
        yield Feast("lent", place, many, chosen)


class Refused(Refusing):
    def test_names(self):
        for name in ("a", "z", "lent", "abcdefgh"):
            self.assertEqual(Feast(name, 0).told()[0], name)
        for name in NO_NAMES:
            self.refuses(BadFeast, Feast, name, 0)

    def test_places(self):
        for place in (-400, -399, -1, 0, 1, 399):
            self.assertEqual(Feast("lent", place).told()[1], place)
        for place in (-401, 400, FAR, -FAR) + NO_NUMBERS:
            self.refuses(BadFeast, Feast, "lent", place)

    def test_days(self):
        for days in (1, 2, 40):
            self.assertEqual(Feast("lent", 0, days).told()[2], days)
        for days in (0, 41, -1, FAR) + NO_NUMBERS:
            self.refuses(BadFeast, Feast, "lent", 0, days)

    def test_how_many_years(self):
        for years in ([0], [19], [7], list(range(20)), [0, 19]):
            self.assertEqual(Feast("lent", 0, 1, years).told()[3], years)
        self.refuses(BadFeast, Feast, "lent", 0, 1, [])
        self.refuses(BadFeast, Feast, "lent", 0, 1, list(range(21)))
        self.refuses(BadFeast, Feast, "lent", 0, 1, [0] * 21)

    def test_years_that_do_not_rise(self):
        for years in ([0, 0], [1, 0], [0, 2, 2], [0, 2, 1], [5, 6, 7, 6]):
            self.refuses(BadFeast, Feast, "lent", 0, 1, years)

    def test_years_out_of_bounds(self):
        for years in ([20], [-1], [-1, 0], [0, 20], [19, 20], [FAR], [-FAR]):
            self.refuses(BadFeast, Feast, "lent", 0, 1, years)
        for number in NO_NUMBERS:
            self.refuses(BadFeast, Feast, "lent", 0, 1, [number])
            self.refuses(BadFeast, Feast, "lent", 0, 1, [0, number])
            self.refuses(BadFeast, Feast, "lent", 0, 1, [number, 9])

    def test_other_things_in_the_place_of_years(self):
        for years in ((), (0, 1), {0: 1}, {0, 1}, "", "0", b"ab", 0, 1, True, False, range(2)):
            self.refuses(BadFeast, Feast, "lent", 0, 1, years)

    def test_how_many_puts(self):
        four = [("a", "off"), ("b", "rest"), ("c", "off"), ("d", "off")]
        for many in range(5):
            self.assertEqual(Feast("lent", 0, 1, None, four[:many]).told()[4], four[:many])
        self.refuses(BadFeast, Feast, "lent", 0, 1, None, four + [("e", "off")])

    def test_a_name_twice_in_puts(self):
        for puts in ([("a", "off"), ("a", "off")], [("a", "off"), ("a", "rest")],
                     [("a", "off"), ("b", "rest"), ("a", "rest")]):
            self.refuses(BadFeast, Feast, "lent", 0, 1, None, puts)

    def test_sorts_in_puts(self):
        for sort in ("free", "", "Off", "off ", "offrest", b"off", None, 1, True, ["off"], ("off",)):
            self.refuses(BadFeast, Feast, "lent", 0, 1, None, [("a", sort)])
            self.refuses(BadFeast, Feast, "lent", 0, 1, None, [("b", "off"), ("a", sort)])

    def test_names_in_puts(self):
        for name in NO_NAMES:
            self.refuses(BadFeast, Feast, "lent", 0, 1, None, [(name, "off")])
            self.refuses(BadFeast, Feast, "lent", 0, 1, None, [("b", "off"), (name, "off")])

    def test_other_things_in_the_place_of_a_put(self):
        for put in (["a", "off"], (), ("a",), ("a", "off", "off"), "ab", None, 1, {"a": "off"}, ("off", "a")):
            self.refuses(BadFeast, Feast, "lent", 0, 1, None, [put])
            self.refuses(BadFeast, Feast, "lent", 0, 1, None, [("b", "off"), put])

    def test_other_things_in_the_place_of_puts(self):
        for puts in ((), (("a", "off"),), {"a": "off"}, "", "ab", 0, False, True, ("a", "off")):
            self.refuses(BadFeast, Feast, "lent", 0, 1, None, puts)

    def test_by_name(self):
        for wrong in ({"name": ""}, {"place": 400}, {"days": 0}, {"years": []}, {"puts": [("a", "free")]}):
            self.refuses(BadFeast, Feast, **{"name": "lent", "place": 0, **wrong})

    def test_days_and_years_below_nought(self):
        calendar = Calendar([4, 5])
        for feast in (Feast("lent", 0), Feast("lent", -1, 9), Feast("lent", 399), Feast("lent", 0, 1, [7])):
            for below in (-1, -9, -FAR):
                for ask in (feast.span, feast.keeps, feast.next_kept, feast.kept_ahead):
                    self.refuses(NoDay, ask, calendar, below)


class Told(unittest.TestCase):
    def test_all_left_out(self):
        self.assertEqual(Feast("lent", -3).told(), ("lent", -3, 1, None, []))

    def test_all_handed_in(self):
        told = ("lent", -3, 2, [0, 1], PUTS)
        self.assertEqual(Feast("lent", -3, 2, [0, 1], PUTS).told(), told)
        self.assertEqual(Feast(puts=PUTS, years=[0, 1], days=2, place=-3, name="lent").told(), told)
        self.assertEqual(Feast("lent", -3, puts=PUTS).told(), ("lent", -3, 1, None, PUTS))
        self.assertEqual(Feast("lent", -3, years=[2]).told(), ("lent", -3, 1, [2], []))
        self.assertEqual(Feast("lent", -3, 1, None, None).told(), ("lent", -3, 1, None, []))
        self.assertEqual(Feast("lent", -3, puts=[]).told(), ("lent", -3, 1, None, []))

    def test_kinds(self):
        for feast in (Feast("lent", 0), Feast("lent", 0, 2, [0], PUTS)):
            told = feast.told()
            self.assertIsInstance(told, tuple)
            self.assertIsInstance(told[4], list)
            for put in told[4]:
                self.assertIsInstance(put, tuple)
        self.assertIsInstance(Feast("lent", 0).span(Calendar([3]), 0), tuple)
        self.assertIs(Feast("lent", 0).keeps(Calendar([3]), 0), True)
        self.assertIs(Feast("lent", 0).keeps(Calendar([3]), 1), False)
        self.assertIs(Feast("lent", 3).keeps(Calendar([3]), 1), False)

    def test_the_interface(self):
        told = {"__eq__": ["other"], "told": [], "span": ["calendar", "year"], "keeps": ["calendar", "day"],
                "next_kept": ["calendar", "day"], "kept_ahead": ["calendar", "day"]}
        for name, names in told.items():
            with self.subTest(name):
                self.assertIn(name, vars(Feast))
                self.assertEqual(list(inspect.signature(vars(Feast)[name]).parameters)[1:], names)
        feast, calendar = Feast("lent", 1), Calendar([3])
        self.assertEqual(feast.span(year=1, calendar=calendar), (4, 5))
        self.assertEqual(feast.keeps(day=4, calendar=calendar), True)
        self.assertEqual(feast.next_kept(day=2, calendar=calendar), 4)
        self.assertEqual(feast.kept_ahead(day=5, calendar=calendar), 2)


class Spans(unittest.TestCase):
    def spans(self, feast, years, count=4):
        return [feast.span(Calendar(years), year) for year in range(count)]

    def test_by_hand(self):
        self.assertEqual(self.spans(Feast("lent", 0), [4, 3]), [(0, 1), (4, 5), (7, 8), (11, 12)])
        self.assertEqual(self.spans(Feast("lent", -1), [4, 3]), [(3, 4), (6, 7), (10, 11), (13, 14)])
        self.assertEqual(self.spans(Feast("lent", 1, 2), [4, 3]), [(1, 3), (5, 7), (8, 10), (12, 14)])

    def test_not_beyond_the_years_end(self):
        self.assertEqual(self.spans(Feast("lent", 2, 40), [4, 3]), [(2, 4), (6, 7), (9, 11), (13, 14)])
        self.assertEqual(self.spans(Feast("lent", -2, 3), [4, 3]), [(2, 4), (5, 7), (9, 11), (12, 14)])
        self.assertEqual(self.spans(Feast("lent", 0, 4), [4, 3]), [(0, 4), (4, 7), (7, 11), (11, 14)])

    def test_a_year_without_the_place(self):
        self.assertEqual(self.spans(Feast("lent", 3), [4, 3]), [(3, 4), None, (10, 11), None])
        self.assertEqual(self.spans(Feast("lent", -4, 2), [4, 3]), [(0, 2), None, (7, 9), None])
        self.assertEqual(self.spans(Feast("lent", 4), [4, 3]), [None] * 4)
        self.assertEqual(self.spans(Feast("lent", -5, 40), [4, 3]), [None] * 4)

    def test_chosen_years(self):
        self.assertEqual(self.spans(Feast("lent", 1, 1, [1]), [4, 3]), [None, (5, 6), None, (12, 13)])
        self.assertEqual(self.spans(Feast("lent", 1, 1, [0, 1]), [4, 3]), [(1, 2), (5, 6), (8, 9), (12, 13)])
        # the calendar's list has no such years
        self.assertEqual(self.spans(Feast("lent", 1, 1, [2, 19]), [4, 3]), [None] * 4)

    def test_the_farthest_places(self):
        calendar = Calendar([400, 399])
        self.assertEqual(Feast("lent", 399).span(calendar, 0), (399, 400))
        self.assertIsNone(Feast("lent", 399).span(calendar, 1))
        self.assertEqual(Feast("lent", -400).span(calendar, 0), (0, 1))
        self.assertIsNone(Feast("lent", -400).span(calendar, 1))
        self.assertEqual(Feast("lent", -399, 40).span(calendar, 1), (400, 440))


class AgainstAWalk(unittest.TestCase):
    def held_against_a_walk(self, feast, years, turns):
        """Each day of some turns, and the same days as far away as numbers go."""
        calendar = Calendar(years)
        size = sum(years)
        days = [kept(feast.told(), years, year, place) for year, place in dates(years, (turns + 1) * size)]
        ahead = 0
        for day in range(turns * size):
            coming = days.index(True, day) if True in days[day:] else None
            self.asked(feast, calendar, day, (days[day], coming, ahead))
            for far in (FAR, 10 ** 30):
                later = (days[day], None if coming is None else coming + far * size, ahead + far * sum(days[:size]))
                self.asked(feast, calendar, day + far * size, later)
            ahead += days[day]

    def asked(self, feast, calendar, day, told):
        self.assertEqual((feast.keeps(calendar, day), feast.next_kept(calendar, day), feast.kept_ahead(calendar, day)),
                         told, (feast.told(), calendar.years(), day))

    def test_small_calendars(self):
        for years in LISTS:
            chosen = [None, [0], [1], [0, 2], [5]]
            for feast in some_feasts((-9, -3, -2, -1, 0, 1, 2, 4, 8), (1, 2, 5, 40), chosen):
                self.held_against_a_walk(feast, years, 2)

    def test_a_great_calendar(self):
        years = [400, 1, 30, 399, 39, 41] + [5] * 13 + [400]
        for feast in (Feast("lent", 380, 40), Feast("lent", -40, 39, [0, 2, 5, 19]), Feast("lent", 1, 1, [3])):
            self.held_against_a_walk(feast, years, 1)

    def test_spans(self):
        for years in LISTS:
            for feast in some_feasts((-9, -3, -1, 0, 1, 4), (1, 3, 40), (None, [0], [0, 2], [5])):
                self.held_spans(feast, years)

    def held_spans(self, feast, years):
        calendar = Calendar(years)
        found = {}
        for day, (year, place) in enumerate(dates(years, 3 * sum(years))):
            if kept(feast.told(), years, year, place):
                found.setdefault(year, []).append(day)
        for year in range(3 * len(years)):
            expected = (found[year][0], found[year][-1] + 1) if year in found else None
            self.assertEqual(feast.span(calendar, year), expected)
            far = None if expected is None else tuple(day + FAR * sum(years) for day in expected)
            self.assertEqual(feast.span(calendar, year + FAR * len(years)), far)

    def test_never_kept(self):
        calendar = Calendar([4, 5])
        for feast in (Feast("lent", 5), Feast("lent", -6), Feast("lent", 4, 9, [0]), Feast("lent", 0, 9, [2])):
            for day in (0, 1, 8, 9, FAR):
                self.assertEqual(feast.keeps(calendar, day), False)
                self.assertIsNone(feast.next_kept(calendar, day))
                self.assertEqual(feast.kept_ahead(calendar, day), 0)

    def test_the_greatest_calendar_without_a_long_wait(self):
        begun = time.monotonic()
        calendar = Calendar([400] * 20)
        feast = Feast("lent", 399, 40, [19])
        for day in range(FAR, FAR + 500):
            coming = feast.next_kept(calendar, day)
            self.assertEqual(calendar.at(coming)[1], 399)
            self.assertTrue(day <= coming < day + 8000)
            self.assertEqual(feast.kept_ahead(calendar, coming + 1), feast.kept_ahead(calendar, day) + 1)
        self.assertLess(time.monotonic() - begun, 10)


class NothingKeptHangsOnAList(unittest.TestCase):
    def still_as_it_was(self, feast):
        self.assertEqual(feast.told(), ("lent", 1, 2, [0, 2], PUTS))
        self.assertEqual([feast.span(Calendar([4] * 3), year) for year in range(4)], [(1, 3), None, (9, 11), (13, 15)])
        self.assertEqual(feast, Feast("lent", 1, 2, [0, 2], PUTS))

    def test_the_lists_handed_in(self):
        years, puts = [0, 2], list(PUTS)
        feast = Feast("lent", 1, 2, years, puts)
        years[0] = 1
        years.append(9)
        puts[0] = ("other", "rest")
        puts.append(("more", "off"))
        self.still_as_it_was(feast)
        years.clear()
        puts.clear()
        self.still_as_it_was(feast)

    def test_the_lists_told(self):
        feast = Feast("lent", 1, 2, [0, 2], PUTS)
        for place in (3, 4):
            told = feast.told()[place]
            told[0] = ("other", "rest")
            told.append(19)
            self.still_as_it_was(feast)
            told.clear()
            self.still_as_it_was(feast)

    def test_puts_left_out(self):
        one, other = Feast("lent", 1), Feast("lent", 1)
        one.told()[4].append(("psalm", "off"))
        self.assertEqual(one.told(), ("lent", 1, 1, None, []))
        self.assertEqual(other.told(), ("lent", 1, 1, None, []))

    def test_what_is_handed_in_is_left_as_it_was(self):
        years, puts = [0, 2], list(PUTS)
        feast = Feast("lent", 1, 2, years, puts)
        calendar = Calendar([4] * 3)
        asked = [(ask(calendar, 9), ask(calendar, 9)) for ask in (feast.span, feast.keeps, feast.next_kept)]
        for one, again in asked:
            self.assertEqual(one, again)
        self.assertEqual((years, puts, calendar.years()), ([0, 2], PUTS, [4] * 3))


class Equal(unittest.TestCase):
    def test_just_where_they_tell_the_same(self):
        made = [Feast("lent", place, days, years, puts)
                for place in (-1, 0) for days in (1, 2) for years in (None, [0], [0, 1])
                for puts in (None, [], PUTS, PUTS[::-1], [("psalm", "rest")])] + [Feast("easter", 0)]
        for one in made:
            for other in made:
                self.assertIs(one == other, one.told() == other.told())
                self.assertIs(one != other, one.told() != other.told())

    def test_puts_left_out_and_empty(self):
        self.assertEqual(Feast("lent", 0), Feast("lent", 0, 1, None, []))
        self.assertNotEqual(Feast("lent", 0), Feast("lent", 0, 1, [0]))

    def test_things_of_other_kinds_are_unlike(self):
        feast = Feast("lent", 0)
        for other in (feast.told(), list(feast.told()), None, "lent", 0, Calendar([3]), object()):
            self.assertIs(feast == other, False)
            self.assertIs(other == feast, False)
            self.assertIs(feast != other, True)


if __name__ == "__main__":
    unittest.main()
