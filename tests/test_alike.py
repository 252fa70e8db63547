"""[9] Two rows, and what [0] says of them."""

import inspect
import random
import unittest
from math import gcd

from readround import alike
from readround.alike import parting
from readround.calendars import Calendar
from readround.errors import NoRow, TooFar
from readround.feasts import Feast
from readround.houses import House
from readround.rows import Going, Yearly
from tests.refusals import Refusing
from tests.sample_houses import ASLEEP, ROW_NAMES, TIGHT, Walked, random_house, renamed, small_houses, word_houses

OFF = [("psalm", "off"), ("lesson", "off")]


def one_row(row, years=(7,), feasts=()):
    return House(Calendar(list(years)), list(feasts), [row])


def pieces_read(house, name, days):
    """The lists of pieces read on the days 0 to days - 1, by a walk."""
    walked = Walked(house, days // house.calendar().turn() + 1)
    return [[piece for lap, piece, own in read] for ahead, behind, read in walked.steps[name]][:days]


def parting_by_walk(one, name, other, word, days):
    for day, (read, other_read) in enumerate(zip(pieces_read(one, name, days), pieces_read(other, word, days))):
        if read != other_read:
            return day
    return None


def reach(house, name):
    """The days of the turn and of the way, straight from the words of the document."""
    turn = house.calendar().turn()
    row = house.row(name).told()
    due = Walked(house, 1).due_in_turn(name)
    if row[0] == "yearly" or due == 0:
        return turn + turn
    return turn + turn * row[2] // gcd(row[2], due)


def told_twice(house):
    """The same house with its years told twice over."""
    years = house.calendar().years()
    feasts = []
    for feast in house.feasts():
        name, place, days, chosen, puts = feast.told()
        again = None if chosen is None else chosen + [year + len(years) for year in chosen]
        feasts.append(Feast(name, place, days, again, puts))
    return House(Calendar(years + years), feasts, house.rows())


class Parting(unittest.TestCase):
    def against_a_walk(self, one, name, other, word):
        far = reach(one, name) + reach(other, word)
        if far > 3000:
            return
        told = parting(one, name, other, word)
        self.assertEqual(told, parting_by_walk(one, name, other, word, 2 * far + 50))
        self.assertEqual(parting(other, word, one, name), told)

    def test_of_a_row_with_itself(self):
        for house in small_houses(40):
            again = House(house.calendar(), house.feasts(), house.rows())
            for row in house.rows():
                if 2 * reach(house, row.told()[1]) <= 3000:
                    self.assertIsNone(parting(house, row.told()[1], house, row.told()[1]))
                    self.assertIsNone(parting(house, row.told()[1], again, row.told()[1]))

    def test_another_begin_many_or_most(self):
        plain = one_row(Going("psalm", 5, 2))
        self.assertEqual(parting(plain, "psalm", one_row(Going("psalm", 5, 2, 1)), "psalm"), 0)
        self.assertEqual(parting(plain, "psalm", one_row(Going("psalm", 6, 2)), "psalm"), 5)
        self.assertIsNone(parting(plain, "psalm", one_row(Going("psalm", 5, 9)), "psalm"))
        # most tells only where something is owed
        feasts = [Feast("lent", 1, 2, None, OFF[:1])]
        two, three = [one_row(Going("psalm", 5, most), (7,), feasts) for most in (2, 3)]
        self.assertEqual(parting(two, "psalm", three, "psalm"), 3)

    def test_another_calendar(self):
        row = Going("psalm", 5, 2)
        self.assertIsNone(parting(one_row(row, (7,)), "psalm", one_row(row, (3, 11)), "psalm"))
        lesson = Yearly("lesson", 3, 1)
        self.assertEqual(parting(one_row(lesson, (7, 7)), "lesson", one_row(lesson, (7, 6)), "lesson"), 13)
        feasts = [Feast("lent", -1, 1, None, OFF[:1])]
        self.assertEqual(parting(one_row(row, (7, 7), feasts), "psalm", one_row(row, (7, 8), feasts), "psalm"), 13)

    def test_a_feast_otherwise(self):
        row = Going("psalm", 5, 2)
        told = [parting(one_row(row, (9,), [Feast("lent", 3, 2, None, OFF[:1])]), "psalm", one_row(row, (9,), [feast]), "psalm")
                for feast in (Feast("paul", 3, 2, None, OFF[:1]), Feast("lent", 4, 2, None, OFF[:1]),
                              Feast("lent", 3, 3, None, OFF[:1]), Feast("lent", 3, 2, None, [("psalm", "rest")]),
                              Feast("lent", 3, 2), Feast("lent", 3, 2, [0], OFF[:1]), Feast("lent", -6, 2, None, OFF[:1]))]
        self.assertEqual(told, [None, 3, 5, 5, 3, None, None])

    def test_a_feast_in_the_last_year_only(self):
        row = Yearly("psalm", 400, 1)
        house = one_row(row, [30] * 20, [Feast("lent", -1, 1, [19], OFF[:1])])
        self.assertEqual(parting(house, "psalm", one_row(row, [30] * 20), "psalm"), 599)
        self.assertEqual(parting(house, "psalm", one_row(row, [30]), "psalm"), 599)

    def test_what_begins_only_in_the_second_turn(self):
        # what is owed at the end of the first turn is read in the second
        row = Going("psalm", 2, 2)
        ends_off = one_row(row, (4,), [Feast("lent", -1, 1, None, OFF[:1])])
        ends_at_rest = one_row(row, (4,), [Feast("lent", -1, 1, None, [("psalm", "rest")])])
        self.assertEqual(parting(ends_off, "psalm", ends_at_rest, "psalm"), 4)

    def test_a_going_row_with_a_yearly_one(self):
        self.assertIsNone(parting(one_row(Going("psalm", 7, 1)), "psalm", one_row(Yearly("psalm", 7, 1)), "psalm"))
        self.assertEqual(parting(one_row(Going("psalm", 7, 1)), "psalm", one_row(Yearly("lesson", 6, 1)), "lesson"), 6)
        self.assertEqual(parting(one_row(Yearly("psalm", 9, 1)), "psalm", one_row(Going("lesson", 9, 1)), "lesson"), 7)

    def test_rows_that_are_alike_for_almost_as_long_as_both_ways(self):
        # first days of years: 10110 and 10110101 for ever are unlike on day 11 = 5 + 8 - 2 and not ahead of it
        row = Yearly("psalm", 1, 1)
        self.assertEqual(parting(one_row(row, (2, 1, 2)), "psalm", one_row(row, (2, 1, 2, 2, 1)), "psalm"), 11)
        self.assertEqual(parting(one_row(row, (2, 1, 2, 2, 1)), "psalm", one_row(row, (2, 1, 2)), "psalm"), 11)

    def test_rows_that_rest_on_all_days(self):
        rest = one_row(Going("psalm", 5, 2), (4,), [Feast("lent", 0, 4, None, [("psalm", "rest")])])
        self.assertIsNone(parting(rest, "psalm", ASLEEP, "psalm"))
        self.assertIsNone(parting(rest, "psalm", ASLEEP, "lesson"))
        self.assertIsNone(parting(ASLEEP, "hymn", rest, "psalm"))
        self.assertEqual(parting(rest, "psalm", one_row(Going("psalm", 5, 2)), "psalm"), 0)

    def test_rows_of_one_house(self):
        for house in small_houses(60):
            names = [row.told()[1] for row in house.rows()]
            for name in names:
                for word in names:
                    self.against_a_walk(house, name, house, word)

    def test_rows_of_two_houses(self):
        chance = random.Random(4)
        houses = [random_house(seed) for seed in range(60)] + list(TIGHT) + [ASLEEP]
        for again in range(150):
            one, other = chance.choice(houses), chance.choice(houses)
            self.against_a_walk(one, chance.choice(one.rows()).told()[1], other, chance.choice(other.rows()).told()[1])

    def test_houses_that_differ_in_one_thing(self):
        for seed in range(60):
            house = random_house(seed)
            years = house.calendar().years()
            for other_years in (years[:-1] + [years[-1] + 1], years[:-1] + [max(1, years[-1] - 1)]):
                try:
                    other = House(Calendar(other_years), house.feasts(), house.rows())
                except ValueError:
                    continue
                for row in house.rows():
                    self.against_a_walk(house, row.told()[1], other, row.told()[1])
            for count in range(len(house.feasts())):
                try:
                    other = House(house.calendar(), house.feasts()[:count], house.rows())
                except ValueError:
                    continue
                for row in house.rows():
                    self.against_a_walk(house, row.told()[1], other, row.told()[1])

    def test_the_same_house_told_otherwise(self):
        for house in small_houses(40):
            others = [told_twice(house), House(house.calendar(), house.feasts(), house.rows()[::-1])]
            # of feasts that put alike another one may be told, but not another sort
            others.append(House(house.calendar(), house.feasts()[::-1], house.rows()))
            for other in others:
                for row in house.rows():
                    name = row.told()[1]
                    if reach(house, name) + reach(other, name) <= 3000:
                        self.assertIsNone(parting(house, name, other, name))
                        self.assertIsNone(parting(other, name, house, name))

    def test_all_names_exchanged(self):
        for house in small_houses(10):
            swapped = renamed(house, ROW_NAMES[1:] + ROW_NAMES[:1], ("a", "b", "c", "d", "e", "f", "g", "h"))
            for other in [swapped] + list(word_houses(house)):
                for row, other_row in zip(house.rows(), other.rows()):
                    if 2 * reach(house, row.told()[1]) <= 3000:
                        self.assertIsNone(parting(house, row.told()[1], other, other_row.told()[1]))


class Refused(Refusing):
    def test_just_beyond_3000_days(self):
        # a turn of one day and a way of many days each
        for many, other in ((1498, 1499), (1499, 1499), (2996, 1), (2997, 1)):
            one, two = one_row(Going("psalm", many, 1), (1,)), one_row(Going("psalm", other, 1), (1,))
            expected = None if many == other else min(many, other)
            self.assertEqual(parting(one, "psalm", two, "psalm"), expected)
            self.assertEqual(parting(two, "psalm", one, "psalm"), expected)
        for many, other in ((1499, 1500), (1500, 1500), (2998, 1), (10 ** 6, 1), (10 ** 6, 10 ** 6)):
            one, two = one_row(Going("psalm", many, 1), (1,)), one_row(Going("psalm", other, 1), (1,))
            self.refuses(TooFar, parting, one, "psalm", two, "psalm")
            self.refuses(TooFar, parting, two, "psalm", one, "psalm")

    def test_yearly_rows(self):
        lesson = Yearly("lesson", 10 ** 6, 1)
        self.assertIsNone(parting(one_row(lesson, (375, 375)), "lesson", one_row(lesson, (375, 375)), "lesson"))
        self.assertEqual(parting(one_row(lesson, (375, 374)), "lesson", one_row(lesson, (375, 376)), "lesson"), 749)
        self.refuses(TooFar, parting, one_row(lesson, (375, 375)), "lesson", one_row(lesson, (375, 376)), "lesson")

    def test_a_way_that_the_divisor_makes_shorter(self):
        # 300 pieces, of which 300 come due in a turn of 300 days: the way is one turn
        same = one_row(Going("psalm", 300, 1), (300,))
        self.assertIsNone(parting(same, "psalm", one_row(Going("psalm", 300, 1), (100, 200)), "psalm"))
        # of which 299 come due: the way is 300 turns
        feast = Feast("lent", 0, 1, None, [("psalm", "rest")])
        self.refuses(TooFar, parting, same, "psalm", one_row(Going("psalm", 300, 1), (300,), [feast]), "psalm")
        # a row that never wakes has a way of one turn, however many its pieces are
        feasts = [Feast(name, place, 40, None, [("psalm", "rest")]) for name, place in (("a", 0), ("b", 40), ("c", 80))]
        asleep = one_row(Going("psalm", 10 ** 6, 1), (120,), feasts)
        self.assertEqual(parting(same, "psalm", asleep, "psalm"), 0)
        self.assertIsNone(parting(asleep, "psalm", asleep, "psalm"))

    def test_no_row_comes_first(self):
        far = one_row(Going("psalm", 10 ** 6, 1))
        for name, word in (("lent", "psalm"), ("psalm", "lent"), ("lent", "lent"), ("", "psalm"), ("psalm", "psalms")):
            self.refuses(NoRow, parting, far, name, far, word)
            self.refuses(NoRow, parting, one_row(Going("psalm", 5, 1)), name, far, word)
        self.refuses(TooFar, parting, far, "psalm", far, "psalm")

    def test_each_name_is_one_of_its_own_house(self):
        one, other = one_row(Going("psalm", 5, 1)), one_row(Going("lesson", 5, 1))
        self.assertIsNone(parting(one, "psalm", other, "lesson"))
        self.refuses(NoRow, parting, one, "lesson", other, "psalm")

    def test_the_interface(self):
        self.assertEqual(list(inspect.signature(alike.parting).parameters), ["one", "name", "other", "word"])


if __name__ == "__main__":
    unittest.main()
