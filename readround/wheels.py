"""How the days of one row lie in the turns of a calendar, and the states that they make."""

from readround.cycles import Cycle, last_at_most
from readround.rows import Yearly


def stretches_of(marks):
    """Part the days of a turn, each (sort, feast), into stretches (first, days, sort, feast) of days alike."""
    begins = [day for day, mark in enumerate(marks) if day == 0 or mark != marks[day - 1]]
    ends = begins[1:] + [len(marks)]
    return [(first, end - first, marks[first][0], marks[first][1]) for first, end in zip(begins, ends)]


def ahead_of_end(day, end):
    """Tell the day, None where it doesn't lie ahead of end; where end is None, there is no end."""
    if day is None or end is None or day < end:
        return day
    return None


class Wheel:
    """The days of one row, by stretches; places are days of one turn, counted from its beginning."""

    def __init__(self, calendar, row, marks):
        self.dates = calendar
        self.series = row
        self.size = len(marks)
        self.stretches = stretches_of(marks)
        self.begins = [first for first, days, sort, feast in self.stretches]
        spans = [(first, first + days, sort) for first, days, sort, feast in self.stretches]
        self.waking = Cycle(self.size, [(first, end) for first, end, sort in spans if sort != "rest"])
        self.free = Cycle(self.size, [(first, end) for first, end, sort in spans if sort == "free"])

    def mark(self, day):
        """Tell (sort, feast) of a day."""
        first, days, sort, feast = self.stretches[last_at_most(self.begins, day % self.size)]
        return sort, feast

    def walk(self, pair, first, end):
        """Carry a state from the place first to the place end of the same turn, stretch by stretch."""
        at = last_at_most(self.begins, first)
        while first < end:
            begin, days, sort, feast = self.stretches[at]
            stop = min(begin + days, end)
            pair = self.series.leap(pair, sort, stop - first)
            first = stop
            at += 1
        return pair

    def due_on(self, lap, number):
        """Tell the day on which a number of the course of lap comes due, None where that never comes."""
        first, end = self.course(lap)
        return ahead_of_end(self.waking.nth(self.waking.ahead(first) + number), end)

    def read_on(self, lap, number):
        """Tell the day on which a number of the course of lap is read, None where that never comes."""
        own = self.due_on(lap, number)
        if own is None:
            return None
        # The elder ones that are owed are read ahead of it; while it waits itself,
        # each free day, its own one too, reads as many as may be.
        due, owed = self.state_at(own)
        first, end = self.course(lap)
        return ahead_of_end(self.free.nth(self.free.ahead(own) + owed // self.series.most), end)


class GoingWheel(Wheel):
    """The wheel of a going row; it must have room in a turn for all that comes due in it."""

    def __init__(self, calendar, row, marks):
        Wheel.__init__(self, calendar, row, marks)
        # One turn makes max(owed - spare, left) of what is owed: left is what it makes
        # of nothing. As spare is not below 0, each turn but the first begins with left.
        self.spare = row.most * self.free.total - self.waking.total
        self.left = self.walk((0, 0), 0, self.size)[1]
        self.first_owed = self.owed_at_begins(0)
        self.later_owed = self.owed_at_begins(self.left)

    def owed_at_begins(self, owed):
        """List what is owed at the beginning of each stretch of a turn that begins with owed."""
        found = []
        pair = (owed, owed)
        for first, days, sort, feast in self.stretches:
            found.append(pair[1])
            pair = self.series.leap(pair, sort, days)
        return found

    def state_at(self, day):
        """Tell the state at the beginning of a day."""
        turns, place = divmod(day, self.size)
        at = last_at_most(self.begins, place)
        owed = self.later_owed[at] if turns else self.first_owed[at]
        first, days, sort, feast = self.stretches[at]
        due = self.waking.ahead(day - place + first)
        return self.series.leap((due, owed), sort, place - first)

    def carry(self, pair, day, end):
        """Carry a state from the beginning of day to the beginning of end."""
        turns = end // self.size - day // self.size
        if turns == 0:
            return self.walk(pair, day % self.size, end % self.size)
        pair = self.walk(pair, day % self.size, self.size)
        pair = self.pass_turns(pair, turns - 1)
        return self.walk(pair, 0, end % self.size)

    def pass_turns(self, pair, turns):
        """Carry a state from the beginning of a turn over whole turns."""
        if turns == 0:
            return pair
        due, owed = pair
        return due + turns * self.waking.total, max(owed - turns * self.spare, self.left)

    def course(self, lap):
        """Tell the first day of the days in which numbers are counted on, and None: they have no end."""
        return 0, None

    def number_of(self, lap, piece):
        """Tell the number of a piece of a round, below 0 where it lies ahead of the row's begin."""
        return lap * self.series.pieces + piece - self.series.begin

    def lap_and_piece(self, day, number):
        """Tell the round and the piece of a number that is read on a day."""
        return divmod(self.series.begin + number, self.series.pieces)


class YearlyWheel(Wheel):
    """The wheel of a yearly row."""

    def state_at(self, day):
        """Tell the state at the beginning of a day."""
        year, place = self.dates.at(day)
        first = (day - place) % self.size
        return self.walk((0, 0), first, first + place)

    def carry(self, pair, day, end):
        """Carry a state from the beginning of day to the beginning of end."""
        if self.dates.at(day)[0] != self.dates.at(end)[0]:
            # the row was begun anew between, so that nothing is left of pair
            return self.state_at(end)
        first = day % self.size
        return self.walk(pair, first, first + end - day)

    def course(self, lap):
        """Tell the first day of the year lap and the day behind its last."""
        return self.dates.first(lap), self.dates.first(lap + 1)

    def number_of(self, lap, piece):
        """Tell the number of a piece in its year."""
        return piece

    def lap_and_piece(self, day, number):
        """Tell the round and the piece of a number that is read on a day."""
        return self.dates.at(day)[0], number


def wheel_of(calendar, row, marks):
    """Make the wheel of a row, of which marks lists (sort, feast) for each day of a turn."""
    if isinstance(row, Yearly):
        return YearlyWheel(calendar, row, marks)
    return GoingWheel(calendar, row, marks)
