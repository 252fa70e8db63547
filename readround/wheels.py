"""How the days of one row lie in the turns of a calendar, and the states that they make."""

from readround.cycles import Cycle, last_at_most
from readround.rows import Yearly


def stretches_of(marks):
    """Part the days of a turn, each (sort, feast), into stretches (first, days, sort, feast) of days alike."""
    begins = [day for day, mark in enumerate(marks) if day == 0 or mark != marks[day - 1]]
    ends = begins[1:] + [len(marks)]
    return [(first, end - first, marks[first][0], marks[first][1]) for first, end in zip(begins, ends)]


def ahead_of_end(day, end):
    """Tell the day, None where it doesn't lie ahead of end; where end is None, there is no end."""
    if day is None or end is None or day < end:
        return day
    return None


def days_to_clear(row, pair, sort, days):
    """Tell behind how many of so many days of one sort nothing is owed at first, None where behind none of them."""
    if row.leap(pair, sort, 1)[1] == 0:
        return 1
    # only free days make what is owed less, and none of them makes it more
    if sort != "free" or row.leap(pair, sort, days)[1] > 0:
        return None
    owing = 1
    clear = days
    while owing + 1 < clear:
        middle = (owing + clear) // 2
        if row.leap(pair, sort, middle)[1] > 0:
            owing = middle
        else:
            clear = middle
    return clear


def days_to_peak(row, pair, sort, days):
    """Tell behind how many of so many days of one sort the most is owed at first."""
    if sort != "off":
        return 1
    # days off make it more for as long as pieces come due
    return max(1, row.leap(pair, sort, days)[0] - pair[0])


class Wheel:
    """The days of one row, by stretches; places are days of one turn, counted from its beginning."""

    def __init__(self, calendar, row, marks):
        self.dates = calendar
        self.series = row
        self.size = len(marks)
        self.stretches = stretches_of(marks)
        self.begins = [first for first, days, sort, feast in self.stretches]
        spans = [(first, first + days, sort) for first, days, sort, feast in self.stretches]
        self.waking = Cycle(self.size, [(first, end) for first, end, sort in spans if sort != "rest"])
        self.free = Cycle(self.size, [(first, end) for first, end, sort in spans if sort == "free"])

    def mark(self, day):
        """Tell (sort, feast) of a day."""
        first, days, sort, feast = self.stretches[last_at_most(self.begins, day % self.size)]
        return sort, feast

    def parts(self, first, end):
        """List the parts (first, days, sort) of the stretches from the place first to the place end of one turn."""
        found = []
        at = last_at_most(self.begins, first)
        while first < end:
            begin, days, sort, feast = self.stretches[at]
            stop = min(begin + days, end)
            found.append((first, stop - first, sort))
            first = stop
            at += 1
        return found

    def walk(self, pair, first, end):
        """Carry a state from the place first to the place end of the same turn, stretch by stretch."""
        for begin, days, sort in self.parts(first, end):
            pair = self.series.leap(pair, sort, days)
        return pair

    def clear_place(self, pair, first, end):
        """Tell the first place, from first to end - 1 of one turn, behind whose step nothing is owed, or None."""
        for begin, days, sort in self.parts(first, end):
            count = days_to_clear(self.series, pair, sort, days)
            if count is not None:
                return begin + count - 1
            pair = self.series.leap(pair, sort, days)
        return None

    def peaks(self, pair, first, end):
        """List for each part from the place first to the place end (owed, place): the most owed, and where at first."""
        found = []
        for begin, days, sort in self.parts(first, end):
            count = days_to_peak(self.series, pair, sort, days)
            found.append((self.series.leap(pair, sort, count)[1], begin + count - 1))
            pair = self.series.leap(pair, sort, days)
        return found

    def done_ahead(self, day):
        """Tell how many numbers of the course of day are read ahead of it."""
        due, owed = self.state_at(day)
        return due - owed

    def due_on(self, lap, number):
        """Tell the day on which a number of the course of lap comes due, None where that never comes."""
        first, end = self.course(lap)
        return ahead_of_end(self.waking.nth(self.waking.ahead(first) + number), end)

    def read_on(self, lap, number):
        """Tell the day on which a number of the course of lap is read, None where that never comes."""
        own = self.due_on(lap, number)
        if own is None:
            return None
        # The elder ones that are owed are read ahead of it; while it waits itself,
        # each free day, its own one too, reads as many as may be.
        due, owed = self.state_at(own)
        first, end = self.course(lap)
        return ahead_of_end(self.free.nth(self.free.ahead(own) + owed // self.series.most), end)


class GoingWheel(Wheel):
    """The wheel of a going row; it must have room in a turn for all that comes due in it."""

    def __init__(self, calendar, row, marks):
        Wheel.__init__(self, calendar, row, marks)
        # One turn makes max(owed - spare, left) of what is owed: left is what it makes
        # of nothing. As spare is not below 0, each turn but the first begins with left.
        self.spare = row.most * self.free.total - self.waking.total
        self.left = self.walk((0, 0), 0, self.size)[1]
        self.first_owed = self.owed_at_begins(0)
        self.later_owed = self.owed_at_begins(self.left)

    def owed_at_begins(self, owed):
        """List what is owed at the beginning of each stretch of a turn that begins with owed."""
        found = []
        pair = (owed, owed)
        for first, days, sort, feast in self.stretches:
            found.append(pair[1])
            pair = self.series.leap(pair, sort, days)
        return found

    def state_at(self, day):
        """Tell the state at the beginning of a day."""
        turns, place = divmod(day, self.size)
        at = last_at_most(self.begins, place)
        owed = self.later_owed[at] if turns else self.first_owed[at]
        first, days, sort, feast = self.stretches[at]
        due = self.waking.ahead(day - place + first)
        return self.series.leap((due, owed), sort, place - first)

    def carry(self, pair, day, end):
        """Carry a state from the beginning of day to the beginning of end."""
        turns = end // self.size - day // self.size
        if turns == 0:
            return self.walk(pair, day % self.size, end % self.size)
        pair = self.walk(pair, day % self.size, self.size)
        pair = self.pass_turns(pair, turns - 1)
        return self.walk(pair, 0, end % self.size)

    def pass_turns(self, pair, turns):
        """Carry a state from the beginning of a turn over whole turns."""
        if turns == 0:
            return pair
        due, owed = pair
        return due + turns * self.waking.total, max(owed - turns * self.spare, self.left)

    def turns_to_clear(self, owed):
        """Tell how many whole turns go by ahead of the first one with a clear day, None where none has one."""
        # A turn takes away spare, unless it comes to nothing on its way: then it ends
        # with left. So it comes to nothing just where no more than left + spare is owed.
        over = owed - self.spare - self.left
        if over <= 0:
            return 0
        if self.spare == 0:
            return None
        return (over + self.spare - 1) // self.spare

    def clear_on(self, pair, day, end):
        """Tell the first day, from day on and ahead of end, behind whose step nothing is owed, or None."""
        turns, place = divmod(day, self.size)
        found = self.clear_place(pair, place, self.size)
        if found is None:
            pair = self.walk(pair, place, self.size)
            passed = self.turns_to_clear(pair[1])
            if passed is None:
                return None
            turns += 1 + passed
            found = self.clear_place(self.pass_turns(pair, passed), 0, self.size)
        return ahead_of_end(turns * self.size + found, end)

    def all_peaks(self):
        """List (owed, day) of days among which the most is owed; behind the second turn all come again."""
        second = self.peaks((self.left, self.left), 0, self.size)
        return self.peaks((0, 0), 0, self.size) + [(owed, self.size + place) for owed, place in second]

    def next_reading(self, piece, day):
        """Tell (day, round) of the first reading of a piece from day on, None where none comes."""
        done = self.done_ahead(day)
        number = done + (piece - self.series.begin - done) % self.series.pieces
        found = self.read_on(0, number)
        if found is None:
            return None
        lap, same_piece = self.lap_and_piece(found, number)
        return found, lap

    def times_ahead(self, piece, day):
        """Tell how often a piece is read ahead of day."""
        ahead_of_begin = (self.series.begin - piece - 1) // self.series.pieces
        return (self.series.begin + self.done_ahead(day) - piece - 1) // self.series.pieces - ahead_of_begin

    def readings_in(self, year):
        """Tell how many readings lie on the days of a year."""
        return self.done_ahead(self.dates.first(year + 1)) - self.done_ahead(self.dates.first(year))

    def course_of(self, day):
        """Tell the course of a day as course tells that of a round."""
        return 0, None

    def course(self, lap):
        """Tell the first day of the days in which numbers are counted on, and None: they have no end."""
        return 0, None

    def number_of(self, lap, piece):
        """Tell the number of a piece of a round, below 0 where it lies ahead of the row's begin."""
        return lap * self.series.pieces + piece - self.series.begin

    def lap_and_piece(self, day, number):
        """Tell the round and the piece of a number that is read on a day."""
        return divmod(self.series.begin + number, self.series.pieces)


class YearlyWheel(Wheel):
    """The wheel of a yearly row."""

    def state_at(self, day):
        """Tell the state at the beginning of a day."""
        year, place = self.dates.at(day)
        first = (day - place) % self.size
        return self.walk((0, 0), first, first + place)

    def carry(self, pair, day, end):
        """Carry a state from the beginning of day to the beginning of end."""
        if self.dates.at(day)[0] != self.dates.at(end)[0]:
            # the row was begun anew between, so that nothing is left of pair
            return self.state_at(end)
        first = day % self.size
        return self.walk(pair, first, first + end - day)

    def year_places(self, year):
        """Tell the place of a year's first day in its turn, and the place behind its last."""
        first = self.dates.first(year) % self.size
        return first, first + self.dates.long(year)

    def clear_on(self, pair, day, end):
        """Tell the first day, from day on and ahead of end, behind whose step nothing is owed, or None."""
        year, place = self.dates.at(day)
        first, behind = self.year_places(year)
        found = self.clear_place(pair, first + place, behind)
        if found is not None:
            return ahead_of_end(day + found - first - place, end)
        # each year is begun with nothing, so that one turn of the years shows all there is
        for later in range(year + 1, year + 1 + len(self.dates.years())):
            first, behind = self.year_places(later)
            found = self.clear_place((0, 0), first, behind)
            if found is not None:
                return ahead_of_end(self.dates.first(later) + found - first, end)
        return None

    def all_peaks(self):
        """List (owed, day) of days among which the most is owed; behind the first turn all come again."""
        found = []
        for year in range(len(self.dates.years())):
            first, behind = self.year_places(year)
            found += self.peaks((0, 0), first, behind)
        return found

    def next_reading(self, piece, day):
        """Tell (day, round) of the first reading of a piece from day on, None where none comes."""
        year, place = self.dates.at(day)
        for lap in range(year, year + 1 + len(self.dates.years())):
            found = self.read_on(lap, piece)
            if found is not None and found >= day:
                return found, lap
        return None

    def times_ahead(self, piece, day):
        """Tell how often a piece is read ahead of day."""
        year, place = self.dates.at(day)
        turns, left = divmod(year, len(self.dates.years()))
        read = [0 if self.read_on(lap, piece) is None else 1 for lap in range(len(self.dates.years()))]
        this_year = 1 if piece < self.done_ahead(day) else 0
        return turns * sum(read) + sum(read[:left]) + this_year

    def readings_in(self, year):
        """Tell how many readings lie on the days of a year."""
        first, behind = self.year_places(year)
        due, owed = self.walk((0, 0), first, behind)
        return due - owed

    def course_of(self, day):
        """Tell the course of a day as course tells that of a round."""
        year, place = self.dates.at(day)
        return self.course(year)

    def course(self, lap):
        """Tell the first day of the year lap and the day behind its last."""
        return self.dates.first(lap), self.dates.first(lap + 1)

    def number_of(self, lap, piece):
        """Tell the number of a piece in its year."""
        return piece

    def lap_and_piece(self, day, number):
        """Tell the round and the piece of a number that is read on a day."""
        return self.dates.at(day)[0], number


def wheel_of(calendar, row, marks):
    """Make the wheel of a row, of which marks lists (sort, feast) for each day of a turn."""
    if isinstance(row, Yearly):
        return YearlyWheel(calendar, row, marks)
    return GoingWheel(calendar, row, marks)
