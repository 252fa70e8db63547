"""[0]: what a number, a name, a list and a pair are."""

import unittest

from readround import kinds

NO_NUMBERS = (True, False, None, "1", b"1", 1.0, [1], (1,), {}, 1j)


class Numbers(unittest.TestCase):
    def test_whole_numbers_of_any_size(self):
        for value in (0, 1, -1, 10 ** 60, -10 ** 60):
            self.assertIs(kinds.is_number(value), True)

    def test_nothing_else_is_a_number(self):
        for value in NO_NUMBERS:
            with self.subTest(value):
                self.assertIs(kinds.is_number(value), False)
                self.assertIs(kinds.is_number_from(value, 0), False)
                self.assertIs(kinds.is_number_within(value, 0, 5), False)

    def test_from(self):
        told = [kinds.is_number_from(value, 2) for value in (-10 ** 60, 1, 2, 3, 10 ** 60)]
        self.assertEqual(told, [False, False, True, True, True])

    def test_within(self):
        told = [kinds.is_number_within(value, 2, 4) for value in (-10 ** 60, 1, 2, 3, 4, 5, 10 ** 60)]
        self.assertEqual(told, [False, False, True, True, True, False, False])


class Truths(unittest.TestCase):
    def test_true_and_false_alone(self):
        self.assertIs(kinds.is_truth(True), True)
        self.assertIs(kinds.is_truth(False), True)
        for value in (0, 1, None, "", "True", 0.0, [], ()):
            with self.subTest(value):
                self.assertIs(kinds.is_truth(value), False)


class Names(unittest.TestCase):
    def test_one_to_eight_small_letters(self):
        for value in ("a", "z", "psalm", "abcdefgh", "zzzzzzzz"):
            with self.subTest(value):
                self.assertIs(kinds.is_name(value), True)

    def test_nothing_else_is_a_name(self):
        wrong = ("", "abcdefghi", "A", "aB", "a b", " a", "a ", "a\n", "a1", "1", "_", "a-b", "a,b",
                 "\u00e4", "\u00df", "\u03b1", "`", "{", b"a", None, 1, True, ["a"], ("a",))
        for value in wrong:
            with self.subTest(value):
                self.assertIs(kinds.is_name(value), False)

    def test_unlike_names(self):
        told = [kinds.are_unlike(names) for names in ([], ["a"], ["a", "b"], ["a", "a"], ["a", "b", "a"])]
        self.assertEqual(told, [True, True, True, False, False])


class ListsAndPairs(unittest.TestCase):
    def test_lists_by_length(self):
        told = [kinds.is_list_within([0] * many, 1, 3) for many in range(6)]
        self.assertEqual(told, [False, True, True, True, False, False])

    def test_other_rows_are_no_lists(self):
        for value in ((1, 2), "ab", b"ab", {1: 2}, {1, 2}, None, 2, range(2)):
            with self.subTest(value):
                self.assertIs(kinds.is_list_within(value, 0, 9), False)

    def test_pairs(self):
        self.assertIs(kinds.is_pair((1, "a")), True)
        for value in ((), (1,), (1, 2, 3), [1, 2], "ab", b"ab", {1: 2, 3: 4}, None, 2):
            with self.subTest(value):
                self.assertIs(kinds.is_pair(value), False)
                self.assertIs(kinds.is_number_pair(value), False)

    def test_pairs_of_numbers(self):
        self.assertIs(kinds.is_number_pair((0, -10 ** 60)), True)
        for wrong in NO_NUMBERS:
            with self.subTest(wrong):
                self.assertIs(kinds.is_number_pair((wrong, 1)), False)
                self.assertIs(kinds.is_number_pair((1, wrong)), False)


if __name__ == "__main__":
    unittest.main()
