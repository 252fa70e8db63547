"""Single days: the days of one row where some of them are put otherwise than the house has them."""

from readround.wheels import ahead_of_end


class PutWheel:
    """The days of one row as its wheel has them, but for single days, told as (day, sort) by rising days."""

    def __init__(self, wheel, single_days):
        self.plain = wheel
        self.series = wheel.series
        self.single_days = list(single_days)

    def mark(self, day):
        """Tell (sort, feast) of a day."""
        for single, sort in self.single_days:
            if single == day:
                return sort, ""
        return self.plain.mark(day)

    def begun(self, pair, day):
        """Tell the state at the beginning of a day where the one ahead leaves pair: nothing where a course begins."""
        first, end = self.plain.course_of(day)
        return (0, 0) if first == day else pair

    def carry(self, pair, day, end):
        """Carry a state from the beginning of day to the beginning of end."""
        for single, sort in self.single_days:
            if day <= single < end:
                pair = self.series.leap(self.plain.carry(pair, day, single), sort, 1)
                day = single + 1
                pair = self.begun(pair, day)
        return self.plain.carry(pair, day, end)

    def state_at(self, day):
        """Tell the state at the beginning of a day."""
        first, end = self.plain.course_of(day)
        return self.carry((0, 0), first, day)

    def lap_and_piece(self, day, number):
        """Tell the round and the piece of a number that is read on a day."""
        return self.plain.lap_and_piece(day, number)

    def due_on(self, lap, number):
        """Tell the day on which a number of the course of lap comes due, None where that never comes."""
        first, end = self.plain.course(lap)
        waking = self.plain.waking
        for single, sort in self.single_days:
            if first <= single and ahead_of_end(single, end) is not None:
                coming = waking.ahead(single) - waking.ahead(first)
                if number < coming:
                    break
                if number == coming and sort != "rest":
                    return single
                number -= coming if sort == "rest" else coming + 1
                first = single + 1
        return ahead_of_end(waking.nth(waking.ahead(first) + number), end)

    def clear_on(self, pair, day):
        """Tell the first day, from day on, behind whose step nothing is owed, None where none comes."""
        for single, sort in self.single_days:
            if day <= single:
                found = self.plain.clear_on(pair, day, single)
                if found is not None:
                    return found
                pair = self.series.leap(self.plain.carry(pair, day, single), sort, 1)
                if pair[1] == 0:
                    return single
                day = single + 1
                pair = self.begun(pair, day)
        return self.plain.clear_on(pair, day, None)

    def met_on(self, one, other, day):
        """Tell the first day, from day on, at whose beginning two states of that day have become one, or None."""
        if one == other:
            return day
        first, end = self.plain.course_of(day)
        if end is None:
            return self.met_in_endless_course(one, other, day)
        # states that have met stay one, and at the end of the course they have met at the latest
        apart = day
        met = end
        while apart + 1 < met:
            middle = (apart + met) // 2
            if self.carry(one, day, middle) == self.carry(other, day, middle):
                met = middle
            else:
                apart = middle
        return met

    def met_in_endless_course(self, one, other, day):
        """Tell what met_on tells of two unlike states, in a course without an end."""
        # what has come due stays as far apart as it is
        if one[0] != other[0]:
            return None
        # and where more is owed in one, it has met the other just when nothing is owed in it any more
        found = self.clear_on(max(one, other), day)
        return None if found is None else found + 1


def read_days(wheel, day, span):
    """Tell of span days from day on, by (round, piece), the day on which each piece that is read on them is read."""
    found = {}
    pair = wheel.state_at(day)
    for at in range(day, day + span):
        sort, feast = wheel.mark(at)
        behind, numbers = wheel.series.step(pair, sort)
        for number in numbers:
            found[wheel.lap_and_piece(at, number)] = at
        pair = wheel.begun(behind, at + 1)
    return found
