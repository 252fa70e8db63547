"""[0]: the refusals."""

import copy
import pickle
import unittest

from readround import errors

PLAIN = ("BadBook", "BadCalendar", "BadFeast", "BadRow", "BadHouse", "BadNumber",
         "NoDay", "NoRow", "NoPiece", "TooFar", "NoDeed")
WITH_FIELDS = ("TooTight", "NeverDone", "BadText")


class Refusals(unittest.TestCase):
    def test_read_error_stands_straight_under_value_error(self):
        self.assertEqual(errors.ReadError.__bases__, (ValueError,))

    def test_all_fourteen_stand_straight_under_read_error(self):
        self.assertEqual(len(PLAIN + WITH_FIELDS), 14)
        for name in PLAIN + WITH_FIELDS:
            with self.subTest(name):
                self.assertEqual(getattr(errors, name).__bases__, (errors.ReadError,))

    def test_none_stands_beneath_another(self):
        kinds = [getattr(errors, name) for name in PLAIN + WITH_FIELDS]
        for one in kinds:
            for other in kinds:
                self.assertEqual(issubclass(one, other), one is other)

    def test_there_is_no_further_refusal(self):
        found = [name for name in vars(errors) if isinstance(getattr(errors, name), type)]
        self.assertEqual(sorted(found), sorted(PLAIN + WITH_FIELDS + ("ReadError",)))

    def test_each_can_be_raised_and_caught_as_value_error(self):
        for name in PLAIN:
            for told in ((), ("why",)):
                with self.subTest(name), self.assertRaises(ValueError):
                    raise getattr(errors, name)(*told)


class Fields(unittest.TestCase):
    def test_too_tight(self):
        self.assertEqual(errors.TooTight(7).block, 7)
        self.assertEqual(errors.TooTight(block=7).block, 7)

    def test_never_done(self):
        for error in (errors.NeverDone("psalm", 9, 8), errors.NeverDone(room=8, due=9, name="psalm")):
            self.assertEqual((error.name, error.due, error.room), ("psalm", 9, 8))

    def test_bad_text(self):
        self.assertEqual(errors.BadText(0).place, 0)
        self.assertEqual(errors.BadText(place=4).place, 4)

    def test_a_field_is_not_left_out(self):
        for kind, told in ((errors.TooTight, ()), (errors.NeverDone, ("psalm", 9)), (errors.BadText, ())):
            with self.assertRaises(TypeError):
                kind(*told)

    def test_fields_outlast_a_copy(self):
        error = errors.NeverDone("psalm", 9, 8)
        for again in (copy.copy(error), pickle.loads(pickle.dumps(error))):
            self.assertEqual((again.name, again.due, again.room), ("psalm", 9, 8))


if __name__ == "__main__":
    unittest.main()
