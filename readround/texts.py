"""Texts: a house as rows of words, and made again of them."""

from readround.calendars import Calendar
from readround.errors import BadText
from readround.feasts import PUT_SORTS, Feast
from readround.houses import House
from readround.kinds import is_name
from readround.rows import Going, Yearly

FIGURES = "0123456789"
MOST_FIGURES = 7


def is_figures(word, most):
    """Tell whether a word is a number of 1 to most figures without a nought ahead."""
    if not 1 <= len(word) <= most or not all([sign in FIGURES for sign in word]):
        return False
    return word == "0" or not word.startswith("0")


def is_number_word(word):
    """Tell whether a word is a number from 0 on."""
    return is_figures(word, MOST_FIGURES)


def is_place_word(word):
    """Tell whether a word is a place, also one below 0."""
    if word.startswith("-"):
        return is_number_word(word[1:]) and word != "-0"
    return is_number_word(word)


def is_years_word(word):
    """Tell whether a word tells the years of a feast."""
    return word == "all" or all([is_number_word(part) for part in word.split(",")])


def are_put_words(words):
    """Tell whether the words are those of a feast's puts, each a sort and a name."""
    if len(words) % 2 == 1:
        return False
    return all([sort in PUT_SORTS and is_name(name) for sort, name in zip(words[0::2], words[1::2])])


def is_calendar_form(words):
    """Tell whether the words are those of a calendar."""
    return words[0] == "calendar" and len(words) > 1 and all([is_number_word(word) for word in words[1:]])


def is_feast_form(words):
    """Tell whether the words are those of a feast."""
    if words[0] != "feast" or len(words) < 5:
        return False
    fits = is_name(words[1]) and is_place_word(words[2]) and is_number_word(words[3]) and is_years_word(words[4])
    return fits and are_put_words(words[5:])


def is_series_form(words):
    """Tell whether the words are those of a row of pieces."""
    going = words[0] == "going" and len(words) == 5
    yearly = words[0] == "yearly" and len(words) == 4
    return (going or yearly) and is_name(words[1]) and all([is_number_word(word) for word in words[2:]])


def check_form(lines):
    """Refuse rows of words of which one can't stand where it does."""
    behind_feasts = False
    for place, words in enumerate(lines):
        if place == 0:
            fits = is_calendar_form(words)
        else:
            behind_feasts = behind_feasts or is_series_form(words)
            fits = is_series_form(words) if behind_feasts else is_feast_form(words)
        if not fits:
            raise BadText(place)
    if not behind_feasts:
        raise BadText(len(lines))


def feast_of(words):
    """Make a feast of its words."""
    years = None if words[4] == "all" else [int(part) for part in words[4].split(",")]
    puts = [(name, sort) for sort, name in zip(words[5::2], words[6::2])]
    return Feast(words[1], int(words[2]), int(words[3]), years, puts)


def series_of(words):
    """Make a row of pieces of its words."""
    if words[0] == "going":
        return Going(words[1], int(words[2]), int(words[3]), int(words[4]))
    return Yearly(words[1], int(words[2]), int(words[3]))


def read_house(rows):
    """Make the house that the texts tell of."""
    lines = [row.split(" ") for row in rows]
    check_form(lines)
    calendar = Calendar([int(word) for word in lines[0][1:]])
    feasts = [feast_of(words) for words in lines if words[0] == "feast"]
    return House(calendar, feasts, [series_of(words) for words in lines if is_series_form(words)])


def feast_text(feast):
    """Tell the text of a feast."""
    name, place, days, years, puts = feast.told()
    kept = "all" if years is None else ",".join([str(year) for year in years])
    words = ["feast", name, str(place), str(days), kept]
    for put_name, sort in puts:
        words += [sort, put_name]
    return " ".join(words)


def house_text(house):
    """List the texts of a house: its calendar's, its feasts' and its rows'."""
    calendar = " ".join(["calendar"] + [str(size) for size in house.calendar().years()])
    feasts = [feast_text(feast) for feast in house.feasts()]
    return [calendar] + feasts + [" ".join([str(part) for part in row.told()]) for row in house.rows()]
