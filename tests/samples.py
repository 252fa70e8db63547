"""Books that several tests share."""

import itertools

from readround.books import Book

LONGEST = 10 ** 12

# 4 sections in the blocks (0, 1), (1, 3), (3, 4), which are 3, 7 and 4 long
MIXED = [(3, False), (5, True), (2, False), (4, False)]


def small_books():
    """Every book of 1 to 4 sections that are 1 to 3 long, and some of 6 sections."""
    for many in range(1, 5):
        for sizes in itertools.product((1, 2, 3), repeat=many):
            for ties in itertools.product((False, True), repeat=many - 1):
                yield Book(list(zip(sizes, ties + (False,))))
    for sizes in ((5, 1, 9, 2, 2, 7), (1, 1, 1, 1, 1, 20), (8, 8, 8, 1, 1, 1), (4, 3, 2, 1, 1, 2)):
        for ties in itertools.product((False, True), repeat=5):
            yield Book(list(zip(sizes, ties + (False,))))


def blocks_by_search(book):
    """The blocks, straight from the words of the document."""
    pairs = book.sections()
    stops = [0] + [place + 1 for place, (size, tied) in enumerate(pairs) if not tied]
    return list(zip(stops, stops[1:]))


def all_cuts(book):
    """Every cut of the book, by choosing where between blocks it is parted."""
    between = [end for first, end in blocks_by_search(book)][:-1]
    for many in range(len(between) + 1):
        for chosen in itertools.combinations(between, many):
            stops = (0,) + chosen + (book.many(),)
            yield list(zip(stops, stops[1:]))


def longest_piece(book, pieces):
    sizes = [size for size, tied in book.sections()]
    return max(sum(sizes[first:end]) for first, end in pieces)
