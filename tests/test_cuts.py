"""[2] Cuts, and what [0] says of them."""

import inspect
import itertools
import time
import unittest

from readround import cuts
from readround.books import Book
from readround.cuts import fewest, is_cut, least_limit
from readround.errors import BadNumber, TooTight
from tests.samples import LONGEST, MIXED, all_cuts, blocks_by_search, longest_piece, small_books


def longest_block(book):
    return max(book.long(first, end) for first, end in blocks_by_search(book))


class IsCut(unittest.TestCase):
    def test_every_cut_of_small_books(self):
        for book in small_books():
            for pieces in all_cuts(book):
                self.assertIs(is_cut(book, pieces), True)

    def test_all_lists_of_up_to_two_pieces(self):
        book = Book(MIXED)
        right = list(all_cuts(book))
        self.assertEqual(len(right), 4)
        # beside the cuts of one and of two pieces, all that go wrong somewhere
        pieces = list(itertools.product(range(-1, 6), repeat=2))
        for many in range(3):
            for chosen in itertools.product(pieces, repeat=many):
                self.assertIs(is_cut(book, list(chosen)), list(chosen) in right)

    def test_wrong_ones(self):
        book = Book(MIXED)
        self.assertIs(is_cut(book, [(0, 1), (1, 3), (3, 4)]), True)
        wrong = {
            "empty list": [],
            "first left out": [(1, 3), (3, 4)],
            "middle left out": [(0, 1), (3, 4)],
            "last left out": [(0, 1), (1, 3)],
            "told twice": [(0, 1), (1, 3), (1, 3), (3, 4)],
            "out of order": [(1, 3), (0, 1), (3, 4)],
            "turned round": [(3, 4), (1, 3), (0, 1)],
            "empty ahead": [(0, 0), (0, 1), (1, 3), (3, 4)],
            "empty between": [(0, 1), (1, 1), (1, 3), (3, 4)],
            "empty behind": [(0, 1), (1, 3), (3, 4), (4, 4)],
            "backwards": [(0, 3), (3, 1), (1, 4)],
            "within a block": [(0, 1), (1, 2), (2, 3), (3, 4)],
            "within a block, two pieces": [(0, 2), (2, 4)],
            "first below": [(-1, 1), (1, 3), (3, 4)],
            "first beyond": [(1, 1), (1, 3), (3, 4)],
            "begins late": [(0, 1), (2, 3), (3, 4)],
            "begins early": [(0, 1), (0, 3), (3, 4)],
            "ends late": [(0, 1), (1, 3), (3, 5)],
            "ends far too late": [(0, 10 ** 30)],
            "ends early": [(0, 3)],
            "one more behind the end": [(0, 1), (1, 3), (3, 4), (4, 5)],
            "all again": [(0, 4), (0, 4)],
        }
        for why, pieces in wrong.items():
            with self.subTest(why):
                self.assertIs(is_cut(book, pieces), False)

    def test_no_list_of_pairs_of_numbers_is_no_cut(self):
        book = Book([(1, False)])
        self.assertIs(is_cut(book, [(0, 1)]), True)
        for pieces in ([(False, True)], [(0, True)], [(False, 1)], [[0, 1]], ((0, 1),), [(0, 1, 1)], [(0,)], [None], None):
            with self.subTest(pieces):
                self.assertIs(is_cut(book, pieces), False)

    def test_nothing_is_changed(self):
        book, pieces = Book(MIXED), [(0, 1), (1, 3), (3, 4)]
        self.assertEqual([is_cut(book, pieces), is_cut(book, pieces)], [True, True])
        self.assertEqual(pieces, [(0, 1), (1, 3), (3, 4)])
        self.assertEqual(book, Book(MIXED))


class Fewest(unittest.TestCase):
    def too_tight(self, book, limit, block):
        with self.subTest(sections=book.sections(), limit=limit):
            with self.assertRaises(TooTight) as caught:
                fewest(book, limit)
            self.assertEqual(type(caught.exception), TooTight)
            self.assertEqual(caught.exception.block, block)

    def test_by_hand(self):
        book = Book(MIXED)
        self.assertEqual(fewest(book, 7), [(0, 1), (1, 3), (3, 4)])
        self.assertEqual(fewest(book, 9), [(0, 1), (1, 3), (3, 4)])
        self.assertEqual(fewest(book, 10), [(0, 3), (3, 4)])
        self.assertEqual(fewest(book, 11), [(0, 3), (3, 4)])
        self.assertEqual(fewest(book, 13), [(0, 3), (3, 4)])
        self.assertEqual(fewest(book, 14), [(0, 4)])
        self.assertEqual(fewest(book, 10 ** 60), [(0, 4)])

    def test_each_piece_is_filled_from_the_front(self):
        even = Book([(2, False)] * 5)
        self.assertEqual(fewest(even, 4), [(0, 2), (2, 4), (4, 5)])
        self.assertEqual(fewest(even, 5), [(0, 2), (2, 4), (4, 5)])
        self.assertEqual(fewest(even, 6), [(0, 3), (3, 5)])

    def test_a_limit_of_nought_is_too_tight(self):
        self.too_tight(Book(MIXED), 0, 0)
        self.too_tight(Book([(1, False)]), 0, 0)

    def test_the_first_block_that_is_too_long(self):
        book = Book(MIXED)
        self.too_tight(book, 6, 1)
        self.too_tight(book, 3, 1)
        self.too_tight(book, 2, 0)
        # the second block is too long, and the third one still longer
        self.too_tight(Book([(1, False), (2, True), (2, False), (9, False)]), 3, 1)

    def test_just_the_longest_block_and_one_less(self):
        for book in small_books():
            longest = longest_block(book)
            self.assertTrue(is_cut(book, fewest(book, longest)))
            begins = [first for first, end in blocks_by_search(book) if book.long(first, end) == longest]
            self.too_tight(book, longest - 1, begins[0])

    def test_a_limit_below_nought(self):
        for book in (Book(MIXED), Book([(LONGEST, False)])):
            for limit in (-1, -2, -10 ** 60):
                with self.assertRaises(BadNumber) as caught:
                    fewest(book, limit)
                self.assertEqual(type(caught.exception), BadNumber)

    def test_against_a_search_of_all_cuts(self):
        for book in small_books():
            cuts_of_book = [(longest_piece(book, pieces), pieces) for pieces in all_cuts(book)]
            for limit in range(longest_block(book), book.long(0, book.many()) + 2):
                told = fewest(book, limit)
                kept = [pieces for size, pieces in cuts_of_book if size <= limit]
                self.assertIn(told, kept)
                self.assertEqual(len(told), min(len(pieces) for pieces in kept))
                # filled from the front: no kept cut reaches further with any of its pieces
                self.assertEqual(told, max(kept))

    def test_kinds(self):
        told = fewest(Book(MIXED), 7)
        self.assertIsInstance(told, list)
        for piece in told:
            self.assertIsInstance(piece, tuple)

    def test_nothing_hangs_on_the_list_told(self):
        book = Book(MIXED)
        told = fewest(book, 10)
        told[0] = (7, 7)
        told.clear()
        self.assertEqual(fewest(book, 10), [(0, 3), (3, 4)])
        self.assertEqual(book, Book(MIXED))
        self.assertEqual(book.blocks(), [(0, 1), (1, 3), (3, 4)])

    def test_a_refusal_changes_nothing(self):
        book = Book(MIXED)
        for limit in (-1, 0, 6):
            with self.assertRaises((BadNumber, TooTight)):
                fewest(book, limit)
        self.assertEqual(book, Book(MIXED))
        self.assertEqual(fewest(book, 7), [(0, 1), (1, 3), (3, 4)])

    def test_true_and_false_are_no_limits(self):
        for limit in (True, False):
            with self.assertRaises(BadNumber):
                fewest(Book([(1, False)]), limit)


class LeastLimit(unittest.TestCase):
    def test_by_hand(self):
        told = [least_limit(Book(MIXED), many) for many in (1, 2, 3, 4, 5, 10 ** 60)]
        self.assertEqual(told, [14, 10, 7, 7, 7, 7])

    def test_against_a_search_of_all_cuts(self):
        for book in small_books():
            for many in range(1, len(book.blocks()) + 3):
                best = min(longest_piece(book, pieces) for pieces in all_cuts(book) if len(pieces) <= many)
                self.assertEqual(least_limit(book, many), best)

    def test_one_less_needs_more_pieces(self):
        for book in small_books():
            for many in range(1, len(book.blocks()) + 3):
                limit = least_limit(book, many)
                self.assertLessEqual(len(fewest(book, limit)), many)
                try:
                    self.assertGreater(len(fewest(book, limit - 1)), many)
                except TooTight:
                    self.assertEqual(limit, longest_block(book))

    def test_far_more_pieces_than_blocks(self):
        for book in small_books():
            self.assertEqual(least_limit(book, 10 ** 60), longest_block(book))

    def test_below_one_piece(self):
        for many in (0, -1, -10 ** 60):
            with self.assertRaises(BadNumber) as caught:
                least_limit(Book(MIXED), many)
            self.assertEqual(type(caught.exception), BadNumber)

    def test_true_and_false_are_no_numbers(self):
        for many in (True, False):
            with self.assertRaises(BadNumber):
                least_limit(Book(MIXED), many)

    def test_the_longest_books_without_a_long_wait(self):
        begun = time.monotonic()
        even = Book([(LONGEST, False)] * 60)
        for many in range(1, 65):
            # 60 like blocks: the fullest of so many pieces holds the 60 parted, rounded up
            self.assertEqual(least_limit(even, many), -(-60 // many) * LONGEST)
        uneven = Book([(LONGEST - 7 * place, place < 59 and place % 3 == 0) for place in range(60)])
        for many in range(1, 45):
            limit = least_limit(uneven, many)
            self.assertLessEqual(len(fewest(uneven, limit)), many)
            if limit > longest_block(uneven):
                self.assertGreater(len(fewest(uneven, limit - 1)), many)
        self.assertLess(time.monotonic() - begun, 30)

    def test_nothing_is_changed(self):
        book = Book(MIXED)
        self.assertEqual(least_limit(book, 2), least_limit(book, 2))
        self.assertEqual(book, Book(MIXED))


class Interface(unittest.TestCase):
    def test_arguments(self):
        told = {"is_cut": ["book", "pieces"], "fewest": ["book", "limit"], "least_limit": ["book", "many"]}
        for name, names in told.items():
            with self.subTest(name):
                self.assertEqual(list(inspect.signature(getattr(cuts, name)).parameters), names)


if __name__ == "__main__":
    unittest.main()
