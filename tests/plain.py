"""The document's words gone through day by day, over plain lists and tuples, to hold the program against."""

NO_NUMBERS = (True, False, None, "1", "", b"1", 1.0, [1], [], (1,), {})


def dates(years, count):
    """(year, place) of the days 0 to count - 1."""
    found = []
    year, place = 0, 0
    for day in range(count):
        found.append((year, place))
        place += 1
        if place == years[year % len(years)]:
            year, place = year + 1, 0
    return found


def kept(feast, years, year, place):
    """Whether the feast, as told() tells it, is kept at a place of a year."""
    name, begin, days, chosen, puts = feast
    if chosen is not None and year % len(years) not in chosen:
        return False
    size = years[year % len(years)]
    if begin < 0:
        begin = size + begin
    if begin < 0 or begin >= size:
        return False
    return begin <= place < begin + days


def sort_on(feasts, years, name, year, place):
    """(sort, feast) of a row at a place of a year."""
    for sort in ("rest", "off"):
        for feast in feasts:
            if kept(feast, years, year, place) and (name, sort) in feast[4]:
                return sort, feast[0]
    return "free", ""


def step(row, pair, sort):
    """(state, numbers read) of the row as told() tells it."""
    due, owed = pair
    waiting = list(range(due - owed, due))
    if sort != "rest" and (row[0] == "going" or due < row[2]):
        waiting.append(due)
        due += 1
    read = []
    while sort == "free" and waiting and len(read) < row[3]:
        read.append(waiting.pop(0))
    return (due, len(waiting)), read


def walk(row, sorts, dates_of_days):
    """For each day of a row (state ahead, state behind, readings), a reading as (round, piece, own day)."""
    told = []
    pair, owned = (0, 0), []
    for day, (year, place) in enumerate(dates_of_days):
        if row[0] == "yearly" and place == 0:
            pair, owned = (0, 0), []
        behind, read = step(row, pair, sorts[day])
        if behind[0] > pair[0]:
            owned.append(day)
        readings = []
        for number in read:
            if row[0] == "going":
                readings.append(((row[4] + number) // row[2], (row[4] + number) % row[2], owned[number]))
            else:
                readings.append((year, number, owned[number]))
        told.append((pair, behind, readings))
        pair = behind
    return told
