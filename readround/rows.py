"""Rows of pieces: what comes due and what is read, day by day."""

from readround.errors import BadNumber, BadRow
from readround.kinds import is_name, is_number_pair, is_number_within

MOST_PIECES = 10 ** 6
MOST_READ = 9
SORTS = ("free", "off", "rest")


def check_row(name, many, most):
    """Refuse what can't be of any row."""
    if not is_name(name):
        raise BadRow("a row has a name of 1 to 8 small letters")
    if not is_number_within(many, 1, MOST_PIECES):
        raise BadRow("a row has 1 to 10 ** 6 pieces")
    if not is_number_within(most, 1, MOST_READ):
        raise BadRow("of a row 1 to 9 pieces are read at most on one day")


def one_step(row, pair, sort):
    """Tell the state that a day leaves, and the list of numbers read."""
    if not row.is_state(pair):
        raise BadNumber("a state is (due, owed), 0 <= owed <= due, and of a yearly row due <= many")
    due, owed = pair
    behind = row.leap(pair, sort, 1)
    # the eldest that are owed are read, so the numbers read follow each other from the first one owed on
    return behind, list(range(due - owed, behind[0] - behind[1]))


class Row:
    """A row of pieces, going or yearly; nothing is made of this class itself."""

    def __eq__(self, other):
        return isinstance(other, Row) and self.told() == other.told()

    def told(self):
        """Tell what the row was made of."""
        raise NotImplementedError("a row is going or yearly")

    def step(self, pair, sort):
        """Tell the state that a day leaves, and the list of numbers read."""
        raise NotImplementedError("a row is going or yearly")


class Going(Row):
    """A row of which the first piece follows the last one."""

    def __init__(self, name, many, most, begin=0):
        check_row(name, many, most)
        if not is_number_within(begin, 0, many - 1):
            raise BadRow("a going row begins with one of its pieces")
        self.name = name
        self.pieces = many
        self.most = most
        self.begin = begin

    def __eq__(self, other):
        return isinstance(other, Going) and self.told() == other.told()

    def told(self):
        """Tell ("going", name, many, most, begin)."""
        return "going", self.name, self.pieces, self.most, self.begin

    def is_state(self, pair):
        """Tell whether pair is a state of the row."""
        return is_number_pair(pair) and 0 <= pair[1] <= pair[0]

    def leap(self, pair, sort, days):
        """Tell the state that so many days of one sort leave."""
        if sort == "rest":
            return pair
        due, owed = pair
        if sort == "off":
            return due + days, owed + days
        return due + days, max(owed - days * (self.most - 1), 0)

    def step(self, pair, sort):
        """Tell the state that a day leaves, and the list of numbers read."""
        return one_step(self, pair, sort)


class Yearly(Row):
    """A row that is begun anew in each year and ends with its last piece."""

    def __init__(self, name, many, most):
        check_row(name, many, most)
        self.name = name
        self.pieces = many
        self.most = most

    def __eq__(self, other):
        return isinstance(other, Yearly) and self.told() == other.told()

    def told(self):
        """Tell ("yearly", name, many, most)."""
        return "yearly", self.name, self.pieces, self.most

    def is_state(self, pair):
        """Tell whether pair is a state of the row."""
        return is_number_pair(pair) and 0 <= pair[1] <= pair[0] <= self.pieces

    def leap(self, pair, sort, days):
        """Tell the state that so many days of one sort leave."""
        if sort == "rest":
            return pair
        due, owed = pair
        coming = min(days, self.pieces - due)
        if sort == "off":
            return due + coming, owed + coming
        # first the days on which a piece still comes due, then those on which none does
        owed = max(owed - coming * (self.most - 1), 0)
        return due + coming, max(owed - (days - coming) * self.most, 0)

    def step(self, pair, sort):
        """Tell the state that a day leaves, and the list of numbers read."""
        return one_step(self, pair, sort)
