"""[1] Books, and what [0] says of them."""

import inspect
import unittest

from readround.books import Book
from readround.errors import BadBook, BadNumber
from tests.samples import LONGEST, MIXED, blocks_by_search, small_books


class Refused(unittest.TestCase):
    def refuses(self, sections):
        with self.subTest(sections):
            with self.assertRaises(BadBook) as caught:
                Book(sections)
            self.assertEqual(type(caught.exception), BadBook)

    def test_how_many_sections(self):
        self.refuses([])
        self.refuses([(1, False)] * 61)
        self.refuses([(1, False)] * 600)
        self.assertEqual(Book([(1, False)]).many(), 1)
        self.assertEqual(Book([(1, False)] * 60).many(), 60)

    def test_how_long_a_section_is(self):
        for size in (1, LONGEST):
            self.assertEqual(Book([(size, False)]).sections(), [(size, False)])
        for size in (0, -1, -LONGEST, LONGEST + 1, LONGEST ** 3):
            self.refuses([(size, False)])

    def test_other_things_in_the_place_of_long(self):
        for size in (True, False, "1", "", None, 1.0, b"1", [1], (1,), {}):
            self.refuses([(size, False)])
            self.refuses([(size, True), (1, False)])

    def test_other_things_in_the_place_of_tied(self):
        for tied in (0, 1, None, "", "True", "False", 0.0, [], ()):
            self.refuses([(1, tied)])
            self.refuses([(1, tied), (1, False)])

    def test_other_things_in_the_place_of_a_pair(self):
        for pair in ([1, False], (), (1,), (False,), (1, False, False), 1, None, "ab", b"ab", {1: 2, 3: 4}, {1, False}):
            self.refuses([pair])
            self.refuses([(1, False), pair, (1, False)])
            self.refuses([(1, False), pair])

    def test_the_last_section_is_tied(self):
        self.refuses([(1, True)])
        self.refuses([(1, False), (1, True)])
        self.refuses([(1, True)] * 60)

    def test_other_things_in_the_place_of_the_list(self):
        pair = (1, False)
        for sections in ((pair,), pair, {pair: pair}, {pair}, iter([pair]), "", "ab", b"ab", None, 0, 1, True, Book([pair])):
            self.refuses(sections)

    def test_the_list_is_left_as_it_was(self):
        for last in ((4, True), (4, False)):
            handed = [(3, True), last]
            try:
                Book(handed)
            except BadBook:
                pass
            self.assertEqual(handed, [(3, True), last])


class Told(unittest.TestCase):
    def test_many_and_len(self):
        for book in small_books():
            self.assertEqual(book.many(), len(book.sections()))
            self.assertEqual(len(book), book.many())

    def test_sections(self):
        book = Book(MIXED)
        self.assertEqual(book.sections(), MIXED)
        self.assertIsInstance(book.sections(), list)
        for size, tied in book.sections():
            self.assertIsInstance(tied, bool)

    def test_the_same_is_told_again(self):
        book = Book(MIXED)
        for ask in (book.many, book.sections, book.blocks, lambda: book.long(1, 3)):
            self.assertEqual(ask(), ask())

    def test_the_interface(self):
        told = {"many": [], "sections": [], "long": ["first", "end"], "blocks": [], "__len__": [], "__eq__": ["other"]}
        for name, names in told.items():
            with self.subTest(name):
                self.assertIn(name, vars(Book))
                self.assertEqual(list(inspect.signature(vars(Book)[name]).parameters)[1:], names)
        self.assertEqual(Book(sections=MIXED).long(end=3, first=1), 7)


class Long(unittest.TestCase):
    def test_every_stretch_and_beyond(self):
        for pairs in (MIXED, [(1, False)], [(LONGEST, True)] * 3 + [(7, False)]):
            book = Book(pairs)
            for first in range(-2, book.many() + 3):
                for end in range(-2, book.many() + 3):
                    self.told_or_refused(book, first, end)

    def test_far_beyond(self):
        book = Book(MIXED)
        for first in (-10 ** 30, 0, 2, 4, 10 ** 30):
            for end in (-10 ** 30, 0, 2, 4, 10 ** 30):
                self.told_or_refused(book, first, end)

    def told_or_refused(self, book, first, end):
        with self.subTest(first=first, end=end):
            if 0 <= first <= end <= book.many():
                size = 0
                for place in range(first, end):
                    size += book.sections()[place][0]
                self.assertEqual(book.long(first, end), size)
            else:
                with self.assertRaises(BadNumber) as caught:
                    book.long(first, end)
                self.assertEqual(type(caught.exception), BadNumber)

    def test_the_longest_book(self):
        self.assertEqual(Book([(LONGEST, False)] * 60).long(0, 60), 60 * LONGEST)

    def test_true_and_false_are_no_numbers(self):
        book = Book(MIXED)
        for first, end in ((False, 2), (True, 2), (0, True), (0, False)):
            with self.assertRaises(BadNumber):
                book.long(first, end)

    def test_a_refusal_changes_nothing(self):
        book = Book(MIXED)
        with self.assertRaises(BadNumber):
            book.long(3, 2)
        self.assertEqual(book, Book(MIXED))


class Blocks(unittest.TestCase):
    def test_no_section_tied(self):
        self.assertEqual(Book([(1, False)]).blocks(), [(0, 1)])
        self.assertEqual(Book([(1, False)] * 3).blocks(), [(0, 1), (1, 2), (2, 3)])

    def test_all_but_the_last_tied(self):
        for many in (2, 3, 60):
            self.assertEqual(Book([(1, True)] * (many - 1) + [(1, False)]).blocks(), [(0, many)])

    def test_mixed(self):
        self.assertEqual(Book(MIXED).blocks(), [(0, 1), (1, 3), (3, 4)])
        ties = [True, False, False, True, True, False]
        self.assertEqual(Book([(9, tied) for tied in ties]).blocks(), [(0, 2), (2, 3), (3, 6)])

    def test_against_the_words_of_the_document(self):
        for book in small_books():
            self.assertEqual(book.blocks(), blocks_by_search(book))

    def test_kinds(self):
        blocks = Book(MIXED).blocks()
        self.assertIsInstance(blocks, list)
        for block in blocks:
            self.assertIsInstance(block, tuple)


class NothingKeptHangsOnAList(unittest.TestCase):
    def test_the_list_handed_in(self):
        handed = list(MIXED)
        book = Book(handed)
        handed[0] = (99, True)
        handed.append((1, True))
        self.still_mixed(book)
        handed.clear()
        self.still_mixed(book)

    def test_the_lists_told(self):
        book = Book(MIXED)
        for ask in (book.sections, book.blocks):
            told = ask()
            told[0] = (99, True)
            told.append((1, True))
            self.still_mixed(book)
            told.clear()
            self.still_mixed(book)

    def test_two_books_of_one_list(self):
        handed = list(MIXED)
        one, other = Book(handed), Book(handed)
        one.sections().clear()
        handed.pop()
        self.still_mixed(one)
        self.still_mixed(other)

    def still_mixed(self, book):
        self.assertEqual(book.many(), 4)
        self.assertEqual(len(book), 4)
        self.assertEqual(book.sections(), MIXED)
        self.assertEqual(book.long(0, 4), 14)
        self.assertEqual(book.blocks(), [(0, 1), (1, 3), (3, 4)])
        self.assertEqual(book, Book(MIXED))


class Equal(unittest.TestCase):
    def test_just_where_the_sections_are_alike(self):
        books = list(small_books())
        for one in books[:200]:
            for other in books[:200]:
                self.assertIs(one == other, one.sections() == other.sections())
                self.assertIs(one != other, one.sections() != other.sections())

    def test_ties_and_order_count(self):
        self.assertEqual(Book([(1, True), (2, False)]), Book([(1, True), (2, False)]))
        self.assertNotEqual(Book([(1, True), (2, False)]), Book([(1, False), (2, False)]))
        self.assertNotEqual(Book([(1, False), (2, False)]), Book([(2, False), (1, False)]))
        self.assertNotEqual(Book([(1, False)]), Book([(1, False), (1, False)]))

    def test_things_of_other_kinds_are_unlike(self):
        book = Book(MIXED)
        for other in (MIXED, tuple(MIXED), None, 4, "book", object()):
            self.assertIs(book == other, False)
            self.assertIs(other == book, False)
            self.assertIs(book != other, True)


if __name__ == "__main__":
    unittest.main()
