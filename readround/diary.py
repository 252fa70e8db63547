"""Diaries: single days of a house's rows put otherwise, by deeds that can be taken back."""

from readround.calendars import check_day
from readround.errors import BadNumber, NoDeed
from readround.kinds import is_number_within
from readround.puts import PutWheel, read_days
from readround.reading import wheel_reads
from readround.rows import SORTS

MOST_SINGLES = 20
MOST_SPAN = 120


def without_single(singles, name, day):
    """List the single days (day, name, sort) but for that day of that row."""
    return [single for single in singles if single[:2] != (day, name)]


def with_single(singles, name, day, sort):
    """List the single days with that day of that row put to sort, by day, then by name."""
    return sorted(without_single(singles, name, day) + [(day, name, sort)])


class Diary:
    """A diary over a house; its lists of single days are made anew by each deed, never changed."""

    def __init__(self, house):
        self.house = house
        self.present = 0
        self.standing = []
        self.deeds = []
        self.earlier = []

    def today(self):
        """Tell the day that today is."""
        return self.present

    def singles(self):
        """List the single days as (day, name, sort), by day, then by name."""
        return list(self.standing)

    def put_wheel(self, name, singles):
        """Make the wheel of a row with those of the single days that are its own."""
        return PutWheel(self.house.wheel(name), [(day, sort) for day, word, sort in singles if word == name])

    def day_wheel(self, name, day):
        """Make the wheel of a row as it stands, for a day; refuse a row or a day that isn't."""
        wheel = self.put_wheel(name, self.standing)
        check_day(day)
        return wheel

    def sort_on(self, name, day):
        """Tell (sort, feast) of a row on a day."""
        return self.day_wheel(name, day).mark(day)

    def state(self, name, day):
        """Tell the state of a row at the beginning of a day."""
        return self.day_wheel(name, day).state_at(day)

    def reads(self, name, day):
        """List what of a row is read on a day, in order, each as (round, piece, own, feast)."""
        return wheel_reads(self.day_wheel(name, day), day)

    def back(self, name, day):
        """Tell the first day, from day on, behind whose step nothing is owed, None where none comes."""
        wheel = self.day_wheel(name, day)
        return wheel.clear_on(wheel.state_at(day), day)

    def is_put(self, name, day):
        """Tell whether that day of that row is a single day."""
        return len(without_single(self.standing, name, day)) < len(self.standing)

    def check_reach(self, name, day):
        """Refuse a day of a row that no deed reaches any more."""
        self.house.wheel(name)
        check_day(day)
        if day < self.present:
            raise NoDeed("that day lies ahead of today")

    def check_put(self, name, day, sort):
        """Refuse a put that can't be done."""
        self.check_reach(name, day)
        if sort not in SORTS:
            raise NoDeed("a day is free, off or rest")
        if len(self.standing) >= MOST_SINGLES and not self.is_put(name, day):
            raise NoDeed("20 single days stand already")

    def keep(self, deed):
        """Write a deed down that is about to be done, with what is ahead of it."""
        self.earlier.append((self.present, self.standing))
        self.deeds.append(deed)

    def put(self, name, day, sort):
        """Put a day of a row to a sort."""
        self.check_put(name, day, sort)
        self.keep(("put", name, day, sort))
        self.standing = with_single(self.standing, name, day, sort)

    def drop(self, name, day):
        """Put a day of a row no more."""
        self.check_reach(name, day)
        if not self.is_put(name, day):
            raise NoDeed("that day isn't put")
        self.keep(("drop", name, day))
        self.standing = without_single(self.standing, name, day)

    def go(self, day):
        """Go on to a day."""
        check_day(day)
        if day < self.present:
            raise NoDeed("today lies behind that day")
        self.keep(("go", day))
        self.present = day

    def undo(self):
        """Take back the last deed that is left."""
        if not self.deeds:
            raise NoDeed("no deed is left")
        self.deeds.pop()
        self.present, self.standing = self.earlier.pop()

    def log(self):
        """List the deeds that are left, in order."""
        return list(self.deeds)

    def settled(self, name, day, sort):
        """Tell the first day behind day at whose beginning a put would change nothing any more, or None."""
        self.check_put(name, day, sort)
        now = self.put_wheel(name, self.standing)
        then = self.put_wheel(name, with_single(self.standing, name, day, sort))
        # behind day both wheels have the same days
        return now.met_on(now.state_at(day + 1), then.state_at(day + 1), day + 1)

    def moves(self, name, day, sort, span):
        """List (round, piece, now, then) of the pieces that a put would move, of span days from day on."""
        self.check_put(name, day, sort)
        if not is_number_within(span, 1, MOST_SPAN):
            raise BadNumber("a span has 1 to 120 days")
        now = read_days(self.put_wheel(name, self.standing), day, span)
        then = read_days(self.put_wheel(name, with_single(self.standing, name, day, sort)), day, span)
        found = []
        for key in sorted(set(list(now) + list(then))):
            if now.get(key) != then.get(key):
                lap, piece = key
                found.append((lap, piece, now.get(key), then.get(key)))
        return found


def do_deed(diary, deed):
    """Do a deed as log tells it."""
    if deed[0] == "put":
        diary.put(deed[1], deed[2], deed[3])
    elif deed[0] == "drop":
        diary.drop(deed[1], deed[2])
    else:
        diary.go(deed[1])


def diary_of(house, log):
    """Make a diary as a fresh one is behind the deeds of a log."""
    diary = Diary(house)
    for deed in log:
        do_deed(diary, deed)
    return diary
