"""[16] Texts, and what [0] says of them."""

import inspect
import unittest

from readround import texts
from readround.calendars import Calendar
from readround.errors import BadCalendar, BadFeast, BadHouse, BadRow, BadText, NeverDone
from readround.feasts import Feast
from readround.houses import House
from readround.reading import sheet
from readround.rows import Going, Yearly
from readround.texts import house_text, read_house
from tests.refusals import Refusing
from tests.sample_houses import ASLEEP, FAR, FEAST_NAMES, ROW_NAMES, TIGHT, great_house, small_houses, word_houses

FULL = ["calendar 30 29", "feast lent -3 2 0,1 off psalm rest lesson", "feast paul 5 1 all", "going psalm 150 3 0",
        "yearly lesson 20 1"]


def parts_of(house):
    """All that a house was made of."""
    return (house.calendar().years(), [feast.told() for feast in house.feasts()], [row.told() for row in house.rows()])


class HouseText(unittest.TestCase):
    def test_the_documents_own(self):
        house = House(Calendar([30, 29]), [Feast("lent", -3, 2, [0, 1], [("psalm", "off"), ("lesson", "rest")]), Feast("paul", 5)],
                      [Going("psalm", 150, 3), Yearly("lesson", 20, 1)])
        self.assertEqual(house_text(house), FULL)

    def test_by_hand(self):
        house = House(Calendar([400]), [], [Yearly("a", 10 ** 6, 9)])
        self.assertEqual(house_text(house), ["calendar 400", "yearly a 1000000 9"])
        house = House(Calendar([1]), [Feast("x", 0, 40, [0]), Feast("y", -400, 1, None, [("b", "rest")])],
                      [Going("b", 10 ** 6, 1, 999999)])
        self.assertEqual(house_text(house), ["calendar 1", "feast x 0 40 0", "feast y -400 1 all rest b", "going b 1000000 1 999999"])

    def test_kinds(self):
        told = house_text(read_house(FULL))
        self.assertIsInstance(told, list)
        for row in told:
            self.assertIs(type(row), str)
        told.clear()
        self.assertEqual(house_text(read_house(FULL)), FULL)


class ThereAndBack(unittest.TestCase):
    def there_and_back(self, house):
        rows = house_text(house)
        again = read_house(rows)
        self.assertIsInstance(again, House)
        self.assertEqual(parts_of(again), parts_of(house))
        self.assertEqual(house_text(again), rows)
        for row in rows:
            self.assertRegex(row, r"\A[ -~]+\Z")

    def test_houses(self):
        for house in small_houses(100) + [great_house(), ASLEEP] + list(TIGHT):
            self.there_and_back(house)

    def test_of_all_sizes(self):
        rows = [Going("psalm", 9, 9, 8), Yearly("lesson", 9, 9), Going("gospel", 1, 9), Yearly("hymn", 10 ** 6, 1)]
        puts = [("psalm", "off"), ("lesson", "rest"), ("gospel", "rest"), ("hymn", "off")]
        for years in ([400], [1], list(range(1, 21)), [400] * 20):
            for count in range(9):
                feasts = [Feast(name, (-1) ** at * 40 * at, 40 - at, None if at % 2 else list(range(0, len(years), at + 1)),
                                puts[:at % 5]) for at, name in enumerate(FEAST_NAMES[:count])]
                for many in range(1, 5):
                    names = ROW_NAMES[:many]
                    fitting = [Feast(*feast.told()[:4], [put for put in feast.told()[4] if put[0] in names]) for feast in feasts]
                    try:
                        house = House(Calendar(years), fitting, rows[:many])
                    except NeverDone:
                        continue
                    self.there_and_back(house)

    def test_names_that_are_words_of_the_texts(self):
        for house in (read_house(FULL), ASLEEP, TIGHT[5]):
            for other in word_houses(house):
                self.there_and_back(other)
        told = ["calendar 9 9", "feast all 0 1 all off off rest rest", "feast feast -1 1 0 off calendar", "going off 5 2 1",
                "yearly rest 3 1", "going calendar 3 2 0", "yearly going 4 1"]
        self.assertEqual(house_text(read_house(told)), told)

    def test_the_house_tells_the_same(self):
        for house in small_houses(20):
            again = read_house(house_text(house))
            for day in (0, 3, 20, FAR):
                self.assertEqual(sheet(again, day), sheet(house, day))

    def test_nothing_hangs_on_the_lists(self):
        rows = list(FULL)
        house = read_house(rows)
        self.assertEqual(rows, FULL)
        rows[0] = "calendar 1"
        rows.clear()
        house_text(house).clear()
        self.assertEqual(house_text(house), FULL)


class OfTheForm(unittest.TestCase):
    def test_nought_and_seven_figures(self):
        told = read_house(["calendar 1", "feast a 0 1 0", "going b 1000000 1 0"])
        self.assertEqual(parts_of(told), ([1], [("a", 0, 1, [0], [])], [("going", "b", 10 ** 6, 1, 0)]))

    def test_names_of_one_and_of_eight_letters(self):
        rows = ["calendar 9", "feast a 0 1 all off abcdefgh", "feast zyxwvuts 1 1 all off z", "yearly abcdefgh 1 1", "yearly z 1 1"]
        self.assertEqual(house_text(read_house(rows)), rows)


class BadTexts(Refusing):
    def bad(self, rows, place):
        with self.subTest(rows=rows):
            with self.assertRaises(BadText) as caught:
                read_house(rows)
            self.assertEqual(type(caught.exception), BadText)
            self.assertEqual(caught.exception.place, place)

    def test_that_end_too_soon(self):
        self.bad([], 0)
        self.bad(["calendar 5"], 1)
        self.bad(["calendar 5", "feast a 0 1 all"], 2)
        self.bad(["calendar 5", "feast a 0 1 all", "feast b 0 1 all"], 3)
        self.bad(FULL[:3], 3)

    def test_a_row_of_the_wrong_kind(self):
        for row in FULL[1:]:
            self.bad([row], 0)
            self.bad([row] + FULL, 0)
            self.bad([row] + FULL[1:], 0)
        for place in range(1, 6):
            self.bad(FULL[:place] + ["calendar 5"] + FULL[place:], place)
        for place in (4, 5):
            self.bad(FULL[:place] + ["feast a 0 1 all"] + FULL[place:], place)
        self.bad(["calendar 5", "yearly a 1 1", "feast b 0 1 all", "yearly c 1 1"], 2)

    def wrong_everywhere(self, wrong):
        """A row that is of no form is refused at each place, also where rows behind it are wrong, or would be refused."""
        for row in wrong:
            for place in range(len(FULL)):
                self.bad(FULL[:place] + [row] + FULL[place + 1:], place)
                self.bad(FULL[:place] + [row] + FULL[place:], place)
                self.bad(FULL[:place] + [row, "none", ""], place)
            self.bad(FULL + [row], len(FULL))

    def test_of_no_form_at_all(self):
        self.wrong_everywhere(["", " ", "  ", "calendar", "feast", "going", "yearly", "Calendar 5", "CALENDAR 5", "calendars 5",
                               "feasts a 0 1 all", "gone a 1 1 0", "year a 1 1", "put psalm 0 off", "5", "calendar5", "~",
                               "feast,a,0,1,all", "calendar\t5"])

    def test_blanks(self):
        for row in FULL + ["calendar 5", "feast a 0 1 0 off psalm"]:
            self.wrong_everywhere([" " + row, row + " "] + [row[:at] + " " + row[at:] for at in range(len(row)) if row[at] == " "])

    def test_a_word_more_and_a_word_less(self):
        # a calendar may have any number of words but none
        for row in FULL[1:]:
            words = row.split(" ")
            for at in range(1, len(words)):
                less = " ".join(words[:at] + words[at + 1:])
                self.wrong_everywhere([less])
            self.wrong_everywhere([row + " 5", row + " psalm", row + " all"])
        self.wrong_everywhere(["feast a 0 1", "feast a 0", "feast a", "going a 1 1", "going a 1", "going a", "yearly a 1", "yearly a",
                               "yearly a 1 1 0", "going a 1 1 0 0", "yearly a 1 1 1 1"])

    def test_sorts_and_names_of_puts(self):
        self.wrong_everywhere(["feast a 0 1 all " + puts for puts in (
            "off", "rest", "off psalm rest", "psalm off", "free psalm", "Off psalm", "of psalm", "offs psalm", "off,psalm",
            "off psalm free lesson", "off psalm psalm off", "off Psalm", "off psalms1", "off abcdefghi", "off 5", "psalm", "5 psalm",
            "off psalm, rest lesson", "off psalm-", "off psalm lesson", "off psalm rest abcdefghi", "off psalm off Lesson",
            "off psalm rest lesson off hymn5")])

    def test_names(self):
        for name in ("abcdefghi", "A", "aB", "a1", "a_", "a-b", "1", "-", "~", "a.", "a,b", "off,"):
            self.wrong_everywhere([f"feast {name} 0 1 all", f"going {name} 5 1 0", f"yearly {name} 5 1", f"feast a 0 1 all off {name}"])

    def test_numbers(self):
        for number in ("01", "00", "007", "12345678", "10000000", "00000000", "-0", "+1", "+0", "-", "--1", "1-", "1.", "1.0", "1e3",
                       "0x1", "1_0", "a", "1a", "one", "-01", "-00", "~", "1,", ",1", "+", "0-", "-12345678", "-+1"):
            self.wrong_everywhere([f"calendar {number}", f"calendar 5 {number}", f"calendar {number} 5", f"feast a {number} 1 all",
                                   f"feast a 0 {number} all", f"feast a 0 1 {number}", f"going a {number} 1 0", f"going a 5 {number} 0",
                                   f"going a 5 1 {number}", f"yearly a {number} 1", f"yearly a 5 {number}"])

    def test_below_nought_stands_only_in_a_place(self):
        self.wrong_everywhere(["calendar -5", "calendar 5 -1", "feast a 0 -1 all", "feast a 0 1 -1", "feast a 0 1 0,-1", "going a -5 1 0",
                               "going a 5 -1 0", "going a 5 1 -1", "yearly a -5 1", "yearly a 5 -1"])
        self.assertEqual(read_house(["calendar 5", "feast a -1 1 all", "yearly b 1 1"]).feasts()[0].told()[1], -1)

    def test_years(self):
        for years in ("", ",", "0,", ",0", "0,,1", "all,0", "0,all", "All", "al", "alls", "none", "0;1", "0,01", "0,-0", "0,12345678", "a"):
            self.wrong_everywhere([f"feast a 0 1 {years}", f"feast a 0 1 {years} off psalm"])

    def test_the_first_of_two(self):
        for first in range(5):
            for second in range(first + 1, 5):
                rows = list(FULL)
                rows[first] = rows[second] = "none"
                self.bad(rows, first)

    def test_a_house_comes_of_none_of_it(self):
        rows = FULL + [""]
        self.bad(rows, 5)
        self.assertEqual(rows, FULL + [""])


class BehindTheForm(Refusing):
    def test_calendars(self):
        for years in ("401", "0", "5 0", "0 5", "9999999", " ".join(["1"] * 21), " ".join(["400"] * 20 + ["1"])):
            self.refuses(BadCalendar, read_house, ["calendar " + years, "yearly a 1 1"])
        self.assertEqual(len(read_house(["calendar " + " ".join(["1"] * 20), "yearly a 1 1"]).calendar().years()), 20)

    def test_feasts(self):
        for told in ("400 1 all", "-401 1 all", "9999999 1 all", "-9999999 1 all", "0 0 all", "0 41 all", "0 1 20", "0 1 1,0",
                     "0 1 0,0", "0 1 0,1,20", "0 1 " + ",".join([str(year) for year in range(21)]),
                     "0 1 all off a rest a", "0 1 all off a off a", "0 1 all off a off b off c off d off e"):
            self.refuses(BadFeast, read_house, ["calendar 5", "feast x " + told, "yearly a 1 1"])

    def test_rows(self):
        for row in ("going a 0 1 0", "going a 1000001 1 0", "going a 5 0 0", "going a 5 10 0", "going a 5 1 5", "going a 9999999 1 0",
                    "yearly a 0 1", "yearly a 1000001 1", "yearly a 5 0", "yearly a 5 10"):
            self.refuses(BadRow, read_house, ["calendar 5", row])
            self.refuses(BadRow, read_house, ["calendar 5", "yearly b 1 1", row])

    def test_houses(self):
        feasts = [f"feast {name} 0 1 all" for name in "abcdefghi"]
        rows = [f"yearly {name} 1 1" for name in "abcde"]
        self.assertEqual(len(read_house(["calendar 5"] + feasts[:8] + rows[:4]).feasts()), 8)
        self.refuses(BadHouse, read_house, ["calendar 5"] + feasts + rows[:1])
        self.refuses(BadHouse, read_house, ["calendar 5"] + rows)
        self.refuses(BadHouse, read_house, ["calendar 5", feasts[0], feasts[0]] + rows[:1])
        self.refuses(BadHouse, read_house, ["calendar 5", rows[0], rows[0]])
        self.refuses(BadHouse, read_house, ["calendar 5", "feast x 0 1 1", rows[0]])
        self.refuses(BadHouse, read_house, ["calendar 5 5", "feast x 0 1 0,2", rows[0]])
        self.refuses(BadHouse, read_house, ["calendar 5", "feast x 0 1 all off b", rows[0]])
        self.refuses(BadHouse, read_house, ["calendar 5", "feast a 0 1 all off x", "feast x 0 1 all", rows[0]])

    def test_never_done(self):
        rows = ["calendar 2", "feast x 0 1 all off a", "yearly b 1 1", "going a 5 1 0"]
        with self.assertRaises(NeverDone) as caught:
            read_house(rows)
        self.assertEqual((caught.exception.name, caught.exception.due, caught.exception.room), ("a", 2, 1))

    def test_in_the_order_in_which_they_are_made(self):
        calendar, feast, row = "calendar 0", "feast x 0 0 all", "yearly a 0 1"
        no_house = "feast y 0 1 all off zz"
        never = ["feast z 0 1 all off c", "going c 1 1 0"]
        self.refuses(BadCalendar, read_house, [calendar, feast, no_house, row])
        self.refuses(BadCalendar, read_house, [calendar, row])
        self.refuses(BadFeast, read_house, ["calendar 1", feast, no_house, row])
        self.refuses(BadFeast, read_house, ["calendar 1", no_house, feast, row])
        self.refuses(BadRow, read_house, ["calendar 1", no_house, "yearly b 1 1", row])
        self.refuses(BadHouse, read_house, ["calendar 1", no_house, never[0], never[1]])
        self.refuses(NeverDone, read_house, ["calendar 1", never[0], never[1]])

    def test_bad_text_ahead_of_all(self):
        for rows in (["calendar 0", "feast x 0 0 all", "yearly a 0 1"], ["calendar 1", "feast z 0 1 all off c", "going c 1 1 0"],
                     ["calendar 1", "feast y 0 1 all off zz", "yearly a 1 1"]):
            for place in range(len(rows) + 1):
                with self.assertRaises(BadText) as caught:
                    read_house(rows[:place] + [""] + rows[place:])
                self.assertEqual(caught.exception.place, place)
        with self.assertRaises(BadText) as caught:
            read_house(["calendar 0", "feast x 0 0 all"])
        self.assertEqual(caught.exception.place, 2)

    def test_the_interface(self):
        for name, names in {"house_text": ["house"], "read_house": ["rows"]}.items():
            self.assertEqual(list(inspect.signature(getattr(texts, name)).parameters), names)


if __name__ == "__main__":
    unittest.main()
