"""Cuts: a book parted into pieces of whole blocks."""

from readround.errors import BadNumber, TooTight
from readround.kinds import is_number_from, is_number_pair


def is_cut(book, pieces):
    """Tell whether pieces, a list of pairs (first, end), is a cut of the book."""
    if not isinstance(pieces, list) or not all([is_number_pair(piece) for piece in pieces]):
        return False
    block_ends = [end for first, end in book.blocks()]
    reached = 0
    for first, end in pieces:
        if first != reached or end <= first or end not in block_ends:
            return False
        reached = end
    return reached == book.many()


def longest_block(book):
    """Tell how long the longest block is."""
    return max([book.long(first, end) for first, end in book.blocks()])


def refuse_long_blocks(book, limit):
    """Raise TooTight for the first block that is longer than the limit."""
    for first, end in book.blocks():
        if book.long(first, end) > limit:
            raise TooTight(first)


def fewest(book, limit):
    """List the pieces of the cut that takes as many blocks into each piece as the limit lets."""
    if not is_number_from(limit, 0):
        raise BadNumber("a limit is a number from 0 on")
    refuse_long_blocks(book, limit)
    pieces = []
    begin = 0
    room = limit
    for first, end in book.blocks():
        size = book.long(first, end)
        if size > room:
            pieces.append((begin, first))
            begin = first
            room = limit
        room -= size
    pieces.append((begin, book.many()))
    return pieces


def least_limit(book, many):
    """Tell the least limit by which the book is cut into at most so many pieces."""
    if not is_number_from(many, 1):
        raise BadNumber("a book is cut into at least one piece")
    # No limit below the longest block gives a cut, and the whole book gives one
    # piece; a greater limit never needs more pieces, so the span can be halved.
    low = longest_block(book)
    high = book.long(0, book.many())
    while low < high:
        middle = (low + high) // 2
        if len(fewest(book, middle)) <= many:
            high = middle
        else:
            low = middle + 1
    return low
