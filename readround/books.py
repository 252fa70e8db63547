"""Books: sections in order, some of them tied to the next one."""

from readround.errors import BadBook, BadNumber
from readround.kinds import is_list_within, is_number_within, is_pair, is_truth

MOST_SECTIONS = 60
LONGEST_SECTION = 10 ** 12


def is_section(value):
    """Tell whether value is a pair (long, tied)."""
    if not is_pair(value):
        return False
    size, tied = value
    return is_number_within(size, 1, LONGEST_SECTION) and is_truth(tied)


def are_sections(value):
    """Tell whether a book can be made of value."""
    if not is_list_within(value, 1, MOST_SECTIONS):
        return False
    if not all([is_section(section) for section in value]):
        return False
    size, tied = value[-1]
    return not tied


class Book:
    """A book of 1 to 60 sections, counted from 0."""

    def __init__(self, sections):
        if not are_sections(sections):
            raise BadBook("a book is a list of 1 to 60 pairs (long, tied), the last one not tied")
        self.pairs = [(size, tied) for size, tied in sections]

    def __len__(self):
        return len(self.pairs)

    def __eq__(self, other):
        return isinstance(other, Book) and self.pairs == other.pairs

    def many(self):
        """Tell how many sections there are."""
        return len(self.pairs)

    def sections(self):
        """List the sections as pairs (long, tied)."""
        return list(self.pairs)

    def long(self, first, end):
        """Add up how long the sections first to end - 1 are."""
        if not is_number_within(end, 0, len(self.pairs)) or not is_number_within(first, 0, end):
            raise BadNumber("a stretch of a book has 0 <= first <= end <= many()")
        return sum([size for size, tied in self.pairs[first:end]])

    def blocks(self):
        """List the blocks, the least stretches that hold tied sections together, as (first, end)."""
        found = []
        first = 0
        for place, (size, tied) in enumerate(self.pairs):
            if not tied:
                found.append((first, place + 1))
                first = place + 1
        return found
