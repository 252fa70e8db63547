"""A desk: a diary that is kept and asked by texts."""

from readround.diary import Diary
from readround.errors import ReadError
from readround.kinds import is_name
from readround.rows import SORTS
from readround.texts import house_text, is_figures, read_house

MOST_DAY_FIGURES = 60

# what stands behind the first word
FORMS = {
    "put": ("name", "day", "sort"),
    "drop": ("name", "day"),
    "go": ("day",),
    "undo": (),
    "log": (),
    "house": (),
    "on": ("day",),
    "owed": ("name", "day"),
    "back": ("name", "day"),
    "settled": ("name", "day", "sort"),
}


def is_word_of(part, word):
    """Tell whether a word can stand in a part of a form."""
    if part == "name":
        return is_name(word)
    if part == "day":
        return is_figures(word, MOST_DAY_FIGURES)
    return word in SORTS


def has_form(words):
    """Tell whether the words are of one of the forms."""
    if words[0] not in FORMS:
        return False
    parts = FORMS[words[0]]
    if len(words) != len(parts) + 1:
        return False
    return all([is_word_of(part, word) for part, word in zip(parts, words[1:])])


def told_of(words):
    """List what the words behind the first one tell, the days as numbers."""
    parts = FORMS[words[0]]
    return [int(word) if part == "day" else word for part, word in zip(parts, words[1:])]


def day_text(day):
    """Tell the text of a day, or of none."""
    return "never" if day is None else str(day)


def row_text(diary, name, day):
    """Tell the text of a row on a day."""
    sort, feast = diary.sort_on(name, day)
    pieces = [f"{lap}/{piece}" for lap, piece, own, own_feast in diary.reads(name, day)]
    return " ".join([name, sort] + pieces)


def answer_put(diary, told):
    """Do a put."""
    name, day, sort = told
    diary.put(name, day, sort)
    return ["done"]


def answer_drop(diary, told):
    """Do a drop."""
    name, day = told
    diary.drop(name, day)
    return ["done"]


def answer_go(diary, told):
    """Go to a day."""
    diary.go(told[0])
    return ["done"]


def answer_undo(diary, told):
    """Take back the last deed."""
    diary.undo()
    return ["done"]


def answer_log(diary, told):
    """List the deeds that are left."""
    return [" ".join([str(part) for part in deed]) for deed in diary.log()]


def answer_house(diary, told):
    """List the texts of the house."""
    return house_text(diary.house)


def answer_on(diary, told):
    """List what each row does on a day."""
    return [row_text(diary, row.name, told[0]) for row in diary.house.rows()]


def answer_owed(diary, told):
    """Tell what has come due and what is owed at the beginning of a day."""
    name, day = told
    due, owed = diary.state(name, day)
    return [f"{due} {owed}"]


def answer_back(diary, told):
    """Tell the first day from a day on behind whose step nothing is owed."""
    name, day = told
    return [day_text(diary.back(name, day))]


def answer_settled(diary, told):
    """Tell the first day at whose beginning a put would change nothing any more."""
    name, day, sort = told
    return [day_text(diary.settled(name, day, sort))]


ANSWERS = {
    "put": answer_put,
    "drop": answer_drop,
    "go": answer_go,
    "undo": answer_undo,
    "log": answer_log,
    "house": answer_house,
    "on": answer_on,
    "owed": answer_owed,
    "back": answer_back,
    "settled": answer_settled,
}


class Desk:
    """A diary of the house that the texts tell of."""

    def __init__(self, rows):
        self.diary = Diary(read_house(rows))

    def tell(self, row):
        """Do or answer what the text tells, as a list of texts."""
        words = row.split(" ")
        if not has_form(words):
            return ["what"]
        answer = ANSWERS[words[0]]
        try:
            return answer(self.diary, told_of(words))
        except ReadError:
            return ["no"]
