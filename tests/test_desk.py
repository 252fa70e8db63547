"""[17] A desk, and what [0] says of it."""

import inspect
import random
import unittest

from readround.desk import Desk
from readround.diary import Diary
from readround.errors import BadCalendar, BadFeast, BadHouse, BadRow, BadText, NeverDone, ReadError
from readround.texts import house_text, read_house
from tests.refusals import Refusing
from tests.sample_diaries import SORTS
from tests.sample_houses import ASLEEP, TIGHT, small_houses, word_houses

ROWS = ["calendar 5 4", "feast lent 1 2 all off psalm rest lesson", "going psalm 3 2 1", "yearly lesson 3 1", "yearly hymn 9 1"]
LAST = "9" * 60
DONE, NO, WHAT = ["done"], ["no"], ["what"]


def answered_by(diary, house, row):
    """What the desk is to answer to a row of a right form, by a diary of the same house."""
    words = [int(word) if word.isdigit() else word for word in row.split(" ")]
    try:
        return answer(diary, house, words[0], words[1:])
    except ReadError:
        return NO


def answer(diary, house, word, told):
    if word in ("put", "drop", "go", "undo"):
        getattr(diary, word)(*told)
        return DONE
    if word == "log":
        return [" ".join(map(str, deed)) for deed in diary.log()]
    if word == "house":
        return house_text(house)
    if word == "on":
        rows = []
        for row in house.rows():
            name = row.told()[1]
            read = [f"{one[0]}/{one[1]}" for one in diary.reads(name, told[0])]
            rows.append(" ".join([name, diary.sort_on(name, told[0])[0]] + read))
        return rows
    if word == "owed":
        return ["{} {}".format(*diary.state(*told))]
    day = diary.back(*told) if word == "back" else diary.settled(*told)
    return ["never" if day is None else str(day)]


def random_row(chance, names, days):
    name, day, sort = chance.choice(names + ["lent"]), chance.choice(days), chance.choice(SORTS)
    return chance.choice([f"put {name} {day} {sort}"] * 4 + [f"drop {name} {day}"] * 2 + ["undo", "log", "house", f"on {day}"]
                         + [f"owed {name} {day}", f"back {name} {day}", f"settled {name} {day} {sort}"]
                         + ([f"go {day}"] if chance.random() < 0.2 else []))


def all_answers(desk, names, days):
    told = [desk.tell("log"), desk.tell("house")]
    for day in days:
        told.append(desk.tell(f"on {day}"))
        for name in names:
            told += [desk.tell(f"owed {name} {day}"), desk.tell(f"back {name} {day}"), desk.tell(f"settled {name} {day} off")]
    return told


class Forms(unittest.TestCase):
    def test_deeds(self):
        desk = Desk(ROWS)
        self.assertEqual(desk.tell("log"), [])
        for row in ("put psalm 7 rest", "put lesson 0 off", "go 3", "put psalm 7 off", "drop psalm 7", f"put hymn {LAST} free"):
            self.assertEqual(desk.tell(row), DONE)
        self.assertEqual(desk.tell("log"), ["put psalm 7 rest", "put lesson 0 off", "go 3", "put psalm 7 off", "drop psalm 7",
                                            f"put hymn {LAST} free"])
        self.assertEqual(desk.tell("undo"), DONE)
        self.assertEqual(desk.tell("undo"), DONE)
        self.assertEqual(desk.tell("log"), ["put psalm 7 rest", "put lesson 0 off", "go 3", "put psalm 7 off"])

    def test_house(self):
        self.assertEqual(Desk(ROWS).tell("house"), ROWS)

    def test_on(self):
        desk = Desk(ROWS)
        self.assertEqual(desk.tell("on 0"), ["psalm free 0/1", "lesson free 0/0", "hymn free 0/0"])
        self.assertEqual(desk.tell("on 1"), ["psalm off", "lesson rest", "hymn free 0/1"])
        self.assertEqual(desk.tell("on 3"), ["psalm free 0/2 1/0", "lesson free 0/1", "hymn free 0/3"])
        desk.tell("put psalm 3 off")
        desk.tell("put lesson 3 rest")
        desk.tell("put hymn 3 rest")
        self.assertEqual(desk.tell("on 3"), ["psalm off", "lesson rest", "hymn rest"])
        self.assertEqual(desk.tell("on 4"), ["psalm free 0/2 1/0", "lesson free 0/1", "hymn free 0/3"])
        far = 9 * 10 ** 58
        self.assertEqual(desk.tell(f"on {far}")[1:], [f"lesson free {2 * 10 ** 58}/0", f"hymn free {2 * 10 ** 58}/0"])

    def test_owed(self):
        desk = Desk(ROWS)
        self.assertEqual([desk.tell(f"owed psalm {day}") for day in range(6)], [["0 0"], ["1 0"], ["2 1"], ["3 2"], ["4 1"], ["5 0"]])
        desk.tell("put psalm 0 off")
        self.assertEqual([desk.tell(f"owed psalm {day}") for day in range(6)], [["0 0"], ["1 1"], ["2 2"], ["3 3"], ["4 2"], ["5 1"]])
        self.assertEqual(desk.tell(f"owed lesson {9 * 10 ** 58}"), ["0 0"])

    def test_back_and_settled(self):
        desk = Desk(ROWS)
        self.assertEqual([desk.tell(row) for row in ("back psalm 1", "back lesson 1", "settled psalm 0 off", "settled lesson 0 rest")],
                         [["4"], ["1"], ["6"], ["5"]])
        self.assertEqual(desk.tell("settled psalm 3 rest"), ["never"])
        self.assertEqual(desk.tell("log"), [])

    def test_never(self):
        desk = Desk(house_text(TIGHT[0]))
        self.assertEqual(desk.tell("settled psalm 1 off"), ["never"])
        self.assertEqual(desk.tell("back psalm 1"), ["1"])
        desk.tell("put psalm 1 off")
        self.assertEqual([desk.tell("back psalm 1"), desk.tell(f"back psalm {LAST}")], [["never"], ["never"]])
        self.assertEqual(Desk(house_text(ASLEEP)).tell("back hymn 7"), ["never"])

    def test_kinds(self):
        desk = Desk(ROWS)
        for row in ("log", "put psalm 3 off", "log", "house", "on 3", "owed psalm 3", "back psalm 3", "settled psalm 3 off", "undo",
                    "undo", "what"):
            told = desk.tell(row)
            self.assertIsInstance(told, list)
            for text in told:
                self.assertIs(type(text), str)

    def test_against_a_diary_of_the_same_house(self):
        chance = random.Random(101)
        for house in [read_house(ROWS), ASLEEP] + list(TIGHT) + small_houses(25):
            desk, diary = Desk(house_text(house)), Diary(house)
            names = [row.told()[1] for row in house.rows()]
            days = [0, 1, 2, 3, 5, 8, 20, 10 ** 30, int(LAST)] + [chance.randrange(10 ** chance.randint(1, 60)) for again in range(9)]
            for again in range(120):
                row = random_row(chance, names, days)
                self.assertEqual(desk.tell(row), answered_by(diary, house, row), row)

    def test_names_that_are_words_of_the_program(self):
        chance = random.Random(102)
        for house in word_houses(read_house(ROWS)):
            desk, diary = Desk(house_text(house)), Diary(house)
            names = [row.told()[1] for row in house.rows()]
            for again in range(40):
                row = random_row(chance, names, [0, 1, 3, 4, 8, 10 ** 50])
                self.assertEqual(desk.tell(row), answered_by(diary, house, row), row)

    def test_the_interface(self):
        self.assertEqual(list(inspect.signature(Desk).parameters), ["rows"])
        self.assertIn("tell", vars(Desk))
        self.assertEqual(list(inspect.signature(Desk.tell).parameters)[1:], ["row"])


class NoAndWhat(unittest.TestCase):
    def desk(self):
        desk = Desk(ROWS)
        for row in ("put psalm 7 rest", "put lesson 3 off", "go 3"):
            self.assertEqual(desk.tell(row), DONE)
        return desk

    def answers(self, rows, expected):
        desk = self.desk()
        ahead = all_answers(desk, ("psalm", "lesson"), (0, 3, 7, 30))
        for row in rows:
            with self.subTest(row):
                self.assertEqual(desk.tell(row), expected)
        self.assertEqual(all_answers(desk, ("psalm", "lesson"), (0, 3, 7, 30)), ahead)

    def test_what_would_be_refused(self):
        self.answers(["put lent 5 off", "put psal 5 off", "put psalm 2 off", "put psalm 0 free", "drop psalm 3", "drop hymn 7",
                      "drop lent 7", "drop lesson 2", "go 2", "go 0", "owed lent 3", "back lent 3", "back xyz 0", "settled lent 3 off",
                      "settled psalm 2 off", "settled psalm 0 rest"], NO)

    def test_with_twenty_single_days(self):
        desk = Desk(ROWS)
        for day in range(20):
            self.assertEqual(desk.tell(f"put psalm {day} off"), DONE)
        self.assertEqual(desk.tell("put psalm 20 off"), NO)
        self.assertEqual(desk.tell("settled psalm 20 off"), NO)
        self.assertEqual(desk.tell("put psalm 19 rest"), DONE)
        self.assertEqual(len(desk.tell("log")), 21)

    def test_undo_with_no_deed_left(self):
        desk = self.desk()
        self.assertEqual([desk.tell("undo") for again in range(5)], [DONE, DONE, DONE, NO, NO])
        self.assertEqual(desk.tell("log"), [])

    def test_days(self):
        desk = self.desk()
        self.assertEqual(desk.tell(f"put psalm {LAST} off"), DONE)
        self.assertEqual(desk.tell("undo"), DONE)
        self.assertEqual(desk.tell("owed psalm 0"), ["0 0"])
        wrong = ("00", "03", "-0", "-1", "-3", "+3", "3.", "3a", "a", "9" * 61, "1" + "0" * 60, "0" * 60, "~", "3,", "1_0", "1e1", "-")
        forms = ("put psalm {} off", "drop psalm {}", "go {}", "on {}", "owed psalm {}", "back psalm {}", "settled psalm {} off")
        self.answers([form.format(day) for form in forms for day in wrong], WHAT)
        # a day of 60 figures is of the form also where the deed is refused
        self.answers([f"drop psalm {LAST}", f"put lent {LAST} off"], NO)

    def test_names(self):
        forms = ("put {} 3 off", "drop {} 3", "owed {} 3", "back {} 3", "settled {} 3 off")
        wrong = ("", "abcdefghi", "Psalm", "PSALM", "psalm1", "a-b", "3", "ps_lm", "~", "psalm,")
        self.answers([form.format(name) for form in forms for name in wrong], WHAT)
        self.answers([form.format(name) for form in forms for name in ("abcdefgh", "lent", "a", "psal")], NO)

    def test_sorts(self):
        wrong = ("", "of", "offs", "Off", "REST", "none", "feast", "going", "never", "3", "free,", "~")
        self.answers([form.format(sort) for form in ("put psalm 3 {}", "settled psalm 3 {}") for sort in wrong], WHAT)
        # the form comes first
        self.answers(["put lent 3 none", "put psalm 2 none", "settled lent 0 none", "put lent 03 off"], WHAT)

    def test_blanks_and_words(self):
        rows = ["put psalm 5 off", "drop psalm 7", "go 5", "undo", "log", "house", "on 3", "owed psalm 3", "back psalm 3",
                "settled psalm 5 off"]
        wrong = []
        for row in rows:
            words = row.split(" ")
            wrong += [" " + row, row + " ", row + "  ", row + " off", row + " 3", row + " psalm", row.upper(), row.capitalize(),
                      "x" + row, row + "~"]
            wrong += [row[:at] + " " + row[at:] for at in range(len(row)) if row[at] == " "]
            wrong += [" ".join(words[:at] + words[at + 1:]) for at in range(len(words)) if len(words) > 1]
            wrong += [" ".join([other] + words[1:]) for other in ("puts", "told", "moves", "sort", "done", "no", "what", "singles", "")]
        # words less that make another right row
        self.answers([row for row in wrong if row not in rows], WHAT)

    def test_other_texts(self):
        self.answers(["", " ", "  ", "~", "put", "drop", "go", "on", "owed", "back", "settled", "undo 1", "log 1", "house 1", "today",
                      "undo undo", "help", "calendar 5", "going psalm 3 2 1", "put psalm,5,off", "put,psalm 5 off", "go5"], WHAT)


class Made(Refusing):
    def test_refused_as_read_house_is(self):
        for kind, rows in ((BadCalendar, ["calendar 0", "yearly a 1 1"]), (BadFeast, ["calendar 1", "feast a 0 0 all", "yearly a 1 1"]),
                           (BadRow, ["calendar 1", "yearly a 0 1"]), (BadHouse, ["calendar 1", "yearly a 1 1", "yearly a 1 1"]),
                           (NeverDone, ["calendar 1", "feast z 0 1 all off c", "going c 1 1 0"])):
            self.refuses(kind, Desk, rows)
        for place, rows in ((0, []), (1, ["calendar 1"]), (1, ["calendar 1", ""]), (3, ROWS[:3] + ["calendar 5"])):
            with self.assertRaises(BadText) as caught:
                Desk(rows)
            self.assertEqual(caught.exception.place, place)

    def test_nothing_hangs_on_the_lists(self):
        rows = list(ROWS)
        desk = Desk(rows)
        self.assertEqual(rows, ROWS)
        rows.clear()
        desk.tell("put psalm 3 off")
        ahead = all_answers(desk, ("psalm", "lesson"), (0, 3, 5))
        for row in ("log", "house", "on 3", "owed psalm 3", "back psalm 3", "undo again", "settled psalm 5 off"):
            told = desk.tell(row)
            told.append("more")
            told.clear()
        self.assertEqual(all_answers(desk, ("psalm", "lesson"), (0, 3, 5)), ahead)
        # also a list that "done", "no" and "what" came in
        for row, expected in (("put psalm 4 off", DONE), ("drop hymn 3", NO), ("", WHAT)):
            desk.tell(row).clear()
            self.assertEqual(desk.tell(row), expected)

    def test_two_desks_know_nothing_of_each_other(self):
        rows = list(ROWS)
        one, other = Desk(rows), Desk(rows)
        fresh = all_answers(other, ("psalm", "lesson"), (0, 3, 5))
        for row in ("put psalm 3 off", "put lesson 0 rest", "go 2"):
            one.tell(row)
        self.assertEqual(all_answers(other, ("psalm", "lesson"), (0, 3, 5)), fresh)
        other.tell("put psalm 0 off")
        self.assertEqual(one.tell("log"), ["put psalm 3 off", "put lesson 0 rest", "go 2"])

    def test_a_desk_made_of_what_another_one_tells(self):
        chance = random.Random(103)
        for house in [read_house(ROWS)] + list(TIGHT)[:3] + small_houses(12):
            desk = Desk(house_text(house))
            names = [row.told()[1] for row in house.rows()]
            days = [0, 1, 2, 3, 5, 8, 20, int(LAST)] + [chance.randrange(10 ** chance.randint(1, 60)) for again in range(6)]
            fresh = all_answers(desk, names, days)
            for again in range(60):
                desk.tell(random_row(chance, names, days))
            second = Desk(desk.tell("house"))
            for row in desk.tell("log"):
                self.assertEqual(second.tell(row), DONE)
            self.assertEqual(all_answers(second, names, days), all_answers(desk, names, days))
            while desk.tell("log"):
                self.assertEqual(desk.tell("undo"), DONE)
            self.assertEqual(all_answers(desk, names, days), fresh)
            self.assertNotEqual(second.tell("log"), [])


if __name__ == "__main__":
    unittest.main()
