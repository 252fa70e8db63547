"""[5] Rows, and what [0] says of them."""

import inspect
import itertools
import unittest

from readround.errors import BadNumber, BadRow
from readround.feasts import Feast
from readround.rows import Going, Row, Yearly
from tests.plain import NO_NUMBERS, step
from tests.refusals import Refusing

FAR = 10 ** 59
MILLION = 10 ** 6
SORTS = ("free", "off", "rest")
NO_NAMES = ("", "abcdefghi", "A", "a b", "a1", "_", "\u00e4", b"a", None, 1, True, ["a"])


class Refused(Refusing):
    def test_names(self):
        for name in ("a", "z", "psalm", "abcdefgh"):
            self.assertEqual(Going(name, 1, 1).told()[1], name)
            self.assertEqual(Yearly(name, 1, 1).told()[1], name)
        for name in NO_NAMES:
            self.refuses(BadRow, Going, name, 1, 1)
            self.refuses(BadRow, Yearly, name, 1, 1)

    def test_many(self):
        for many in (1, 2, MILLION):
            self.assertEqual(Going("psalm", many, 1).told()[2], many)
            self.assertEqual(Yearly("psalm", many, 1).told()[2], many)
        for many in (0, -1, MILLION + 1, FAR, -FAR) + NO_NUMBERS:
            self.refuses(BadRow, Going, "psalm", many, 1)
            self.refuses(BadRow, Yearly, "psalm", many, 1)

    def test_most(self):
        for most in (1, 2, 9):
            self.assertEqual(Going("psalm", 5, most).told()[3], most)
            self.assertEqual(Yearly("psalm", 5, most).told()[3], most)
        for most in (0, -1, 10, FAR) + NO_NUMBERS:
            self.refuses(BadRow, Going, "psalm", 5, most)
            self.refuses(BadRow, Yearly, "psalm", 5, most)

    def test_begin(self):
        for many in (1, 5, MILLION):
            for begin in (0, many - 1):
                self.assertEqual(Going("psalm", many, 1, begin).told()[4], begin)
            for begin in (many, many + 1, -1, FAR, -FAR) + NO_NUMBERS:
                self.refuses(BadRow, Going, "psalm", many, 1, begin)

    def test_by_name(self):
        for wrong in ({"name": ""}, {"many": 0}, {"most": 10}):
            self.refuses(BadRow, Yearly, **{"name": "psalm", "many": 5, "most": 1, **wrong})
        for wrong in ({"name": ""}, {"many": 0}, {"most": 10}, {"begin": 5}):
            self.refuses(BadRow, Going, **{"name": "psalm", "many": 5, "most": 1, "begin": 0, **wrong})


class Told(unittest.TestCase):
    def test_going(self):
        self.assertEqual(Going("psalm", 150, 3).told(), ("going", "psalm", 150, 3, 0))
        self.assertEqual(Going("psalm", 150, 3, 149).told(), ("going", "psalm", 150, 3, 149))
        self.assertEqual(Going(begin=7, most=3, many=150, name="psalm").told(), ("going", "psalm", 150, 3, 7))

    def test_yearly(self):
        self.assertEqual(Yearly("lesson", 360, 9).told(), ("yearly", "lesson", 360, 9))
        self.assertEqual(Yearly(most=9, many=360, name="lesson").told(), ("yearly", "lesson", 360, 9))

    def test_both_stand_under_row(self):
        for row in (Going("psalm", 1, 1), Yearly("psalm", 1, 1)):
            self.assertIsInstance(row, Row)
            self.assertIsInstance(row.told(), tuple)
        self.assertNotIsInstance(Going("psalm", 1, 1), Yearly)
        self.assertNotIsInstance(Yearly("psalm", 1, 1), Going)

    def test_the_interface(self):
        # each has them in its own body, inheriting is not enough
        for kind in (Row, Going, Yearly):
            for name, names in {"__eq__": ["other"], "told": [], "step": ["pair", "sort"]}.items():
                with self.subTest(kind=kind.__name__, name=name):
                    self.assertIn(name, vars(kind))
                    self.assertEqual(list(inspect.signature(vars(kind)[name]).parameters)[1:], names)
        for kind in (Going, Yearly):
            self.assertEqual(kind("psalm", 5, 1).step(sort="off", pair=(1, 1)), ((2, 2), []))


class Equal(unittest.TestCase):
    def test_just_where_they_tell_the_same(self):
        made = [Going(name, many, most, begin)
                for name in ("a", "b") for many in (2, 3) for most in (1, 2) for begin in (0, 1)]
        made += [Yearly(name, many, most) for name in ("a", "b") for many in (2, 3) for most in (1, 2)]
        made += [Going("a", 2, 1), Yearly("a", 2, 1)]
        for one in made:
            for other in made:
                self.assertIs(one == other, one.told() == other.told())
                self.assertIs(one != other, one.told() != other.told())

    def test_things_of_other_kinds_are_unlike(self):
        for row in (Going("a", 2, 1), Yearly("a", 2, 1)):
            for other in (row.told(), list(row.told()), None, "a", Feast("a", 0), object()):
                self.assertIs(row == other, False)
                self.assertIs(other == row, False)
                self.assertIs(row != other, True)


class Steps(unittest.TestCase):
    def test_by_hand(self):
        row = Going("psalm", 5, 2)
        self.assertEqual(row.step((0, 0), "rest"), ((0, 0), []))
        self.assertEqual(row.step((0, 0), "off"), ((1, 1), []))
        self.assertEqual(row.step((0, 0), "free"), ((1, 0), [0]))
        self.assertEqual(row.step((4, 1), "free"), ((5, 0), [3, 4]))
        self.assertEqual(row.step((4, 2), "free"), ((5, 1), [2, 3]))
        self.assertEqual(row.step((4, 4), "free"), ((5, 3), [0, 1]))
        # a going row counts on beyond its pieces
        self.assertEqual(row.step((12, 2), "free"), ((13, 1), [10, 11]))
        self.assertEqual(row.step((5, 0), "off"), ((6, 1), []))

    def test_a_yearly_row_by_hand(self):
        row = Yearly("lesson", 5, 2)
        self.assertEqual(row.step((4, 0), "free"), ((5, 0), [4]))
        self.assertEqual(row.step((4, 2), "off"), ((5, 3), []))
        self.assertEqual(row.step((5, 0), "free"), ((5, 0), []))
        self.assertEqual(row.step((5, 0), "off"), ((5, 0), []))
        self.assertEqual(row.step((5, 1), "free"), ((5, 0), [4]))
        self.assertEqual(row.step((5, 3), "free"), ((5, 1), [2, 3]))
        self.assertEqual(row.step((5, 3), "off"), ((5, 3), []))
        self.assertEqual(row.step((5, 5), "rest"), ((5, 5), []))

    def test_every_small_state(self):
        for many, most in itertools.product((1, 2, 5, 12), range(1, 10)):
            for row in (Going("psalm", many, most), Going("psalm", many, most, many - 1), Yearly("psalm", many, most)):
                for due in range(13):
                    if due <= many or isinstance(row, Going):
                        for owed, sort in itertools.product(range(due + 1), SORTS):
                            told = row.step((due, owed), sort)
                            self.assertEqual(told, step(row.told(), (due, owed), sort), (row.told(), due, owed, sort))

    def test_states_of_up_to_sixty_figures(self):
        for most in (1, 2, 9):
            row = Going("psalm", 7, most, 3)
            for due in (10 ** 30, FAR, 10 * FAR - 1):
                for owed in (0, 1, most - 2, most - 1, most, 10 ** 20, due - 1, due):
                    if owed >= 0:
                        self.far_state(row, most, due, owed)

    def far_state(self, row, most, due, owed):
        self.assertEqual(row.step((due, owed), "rest"), ((due, owed), []))
        self.assertEqual(row.step((due, owed), "off"), ((due + 1, owed + 1), []))
        read = min(owed + 1, most)
        numbers = [due - owed + place for place in range(read)]
        self.assertEqual(row.step((due, owed), "free"), ((due + 1, owed + 1 - read), numbers))

    def test_the_longest_yearly_row(self):
        row = Yearly("lesson", MILLION, 9)
        self.assertEqual(row.step((MILLION, MILLION), "free"), ((MILLION, MILLION - 9), list(range(9))))
        self.assertEqual(row.step((MILLION - 1, 0), "free"), ((MILLION, 0), [MILLION - 1]))
        self.assertEqual(row.step((MILLION, 0), "off"), ((MILLION, 0), []))

    def test_kinds(self):
        for row in (Going("psalm", 5, 2), Yearly("psalm", 5, 2)):
            for sort in SORTS:
                told = row.step((3, 2), sort)
                self.assertIsInstance(told, tuple)
                self.assertIsInstance(told[0], tuple)
                self.assertIsInstance(told[1], list)

    def test_nothing_is_kept(self):
        for row in (Going("psalm", 5, 2, 1), Yearly("psalm", 5, 2)):
            behind, read = row.step((4, 3), "free")
            read.clear()
            self.assertEqual(row.step((4, 3), "free"), ((5, 2), [1, 2]))
            self.assertEqual(row.told()[:4], (row.told()[0], "psalm", 5, 2))


class NoStates(Refusing):
    def test_pairs_that_are_no_state(self):
        for sort in SORTS:
            for pair in ((0, -1), (3, -1), (0, 1), (3, 4), (-1, -1), (-1, 0), (-2, -1), (FAR, FAR + 1), (FAR, -1),
                         (-FAR, FAR), (3, FAR)):
                self.refuses(BadNumber, Going("psalm", 5, 2).step, pair, sort)
                self.refuses(BadNumber, Yearly("psalm", 5, 2).step, pair, sort)

    def test_due_beyond_many(self):
        for sort in SORTS:
            for pair in ((6, 0), (6, 6), (FAR, 0), (FAR, FAR)):
                self.refuses(BadNumber, Yearly("psalm", 5, 2).step, pair, sort)
                self.assertEqual(Going("psalm", 5, 2).step(pair, "rest"), (pair, []))
            self.refuses(BadNumber, Yearly("psalm", MILLION, 2).step, (MILLION + 1, 0), sort)
        self.assertEqual(Yearly("psalm", 5, 2).step((5, 5), "rest"), ((5, 5), []))

    def test_true_and_false_are_no_numbers(self):
        for row in (Going("psalm", 5, 2), Yearly("psalm", 5, 2)):
            for pair in ((True, 0), (1, False), (True, True)):
                self.refuses(BadNumber, row.step, pair, "free")


if __name__ == "__main__":
    unittest.main()
