import copy
import pickle
import unittest

from nightbook import errors
from nightbook.errors import InnError
from tests.oddities import NO_WHOLES, Touchy

VALUES = {
    "NoNumber": "text", "NoText": "text", "NoRow": "text", "NoBook": "text",
    "NoStay": "at", "NoWish": "at", "NoRoom": "room", "Taken": "room", "TooFull": "night", "Full": "kind",
    "NoExchange": "night", "NoKind": "kind", "TooMany": "number", "NoName": "name", "NoStretch": "name",
    "NoChance": "name", "Stands": "name", "NoGuest": "name", "InHouse": "name", "NotTaken": "name",
    "NotTonight": "name",
}
CLASSES = [getattr(errors, name) for name in VALUES]


class ErrorsTest(unittest.TestCase):
    def test_there_are_twenty_one_and_no_others(self):
        self.assertEqual(len(VALUES), 21)
        there = [name for name in vars(errors) if isinstance(getattr(errors, name), type)]
        self.assertEqual(sorted(there), sorted(list(VALUES) + ["InnError"]))

    def test_inn_error_is_a_value_error(self):
        self.assertEqual(InnError.__bases__, (ValueError,))

    def test_each_stands_straight_under_inn_error(self):
        for error in CLASSES:
            self.assertEqual(error.__bases__, (InnError,), error)

    def test_each_is_taken_as_itself_inn_error_and_value_error(self):
        for name, error in zip(VALUES, CLASSES):
            for taken in (error, InnError, ValueError):
                with self.assertRaises(taken):
                    raise error(3 if VALUES[name] != "text" else "words")

    def test_none_is_another_one(self):
        for error in CLASSES:
            made = error("ann")
            self.assertIsInstance(made, InnError)
            self.assertIsInstance(made, ValueError)
            self.assertEqual([other for other in CLASSES if isinstance(made, other)], [error])

    def test_each_keeps_its_value_by_its_name(self):
        for name, error in zip(VALUES, CLASSES):
            for value in (0, 7, -3, 10 ** 299, 10 ** 5000, "ann", "", "no words", *NO_WHOLES):
                self.assertIs(getattr(error(value), VALUES[name]), value, name)

    def test_values_of_two_errors_are_apart(self):
        for name, error in zip(VALUES, CLASSES):
            one, other = error("one"), error("other")
            self.assertEqual([getattr(one, VALUES[name]), getattr(other, VALUES[name])], ["one", "other"])

    def test_the_value_can_be_handed_in_by_its_name(self):
        for name, error in zip(VALUES, CLASSES):
            if VALUES[name] != "text":
                self.assertEqual(getattr(error(**{VALUES[name]: 5}), VALUES[name]), 5)

    def test_nothing_is_made_without_its_value(self):
        for name, error in zip(VALUES, CLASSES):
            if VALUES[name] != "text":
                self.assertRaises(TypeError, error)

    def test_the_four_of_a_text_show_it(self):
        for name in ("NoNumber", "NoText", "NoRow", "NoBook"):
            self.assertEqual(str(getattr(errors, name)("some words")), "some words")

    def test_copies_keep_the_value(self):
        for name, error in zip(VALUES, CLASSES):
            made = error("ann")
            for again in (copy.copy(made), copy.deepcopy(made), pickle.loads(pickle.dumps(made))):
                self.assertEqual(again.__class__, error)
                self.assertEqual(getattr(again, VALUES[name]), "ann")

    def test_what_fails_at_a_touch_is_kept_too(self):
        thing = Touchy()
        for name, error in zip(VALUES, CLASSES):
            self.assertIs(getattr(error(thing), VALUES[name]), thing)


if __name__ == "__main__":
    unittest.main()
