import unittest

from shortrows import errors
from shortrows.errors import NoAsk, NoBits, NoCode, NoProgram, NoReach, NoRow, ShortError

REFUSALS = (NoCode, NoReach, NoRow, NoAsk, NoProgram, NoBits)


class ErrorsTest(unittest.TestCase):
    def test_each_stands_straight_under_short_error(self):
        self.assertEqual(ShortError.__bases__, (ValueError,))
        for refusal in REFUSALS:
            self.assertTrue(issubclass(refusal, ShortError), refusal)

    def test_none_stands_under_another_one(self):
        for refusal in REFUSALS:
            for other in REFUSALS:
                self.assertEqual(issubclass(refusal, other), refusal is other, (refusal, other))

    def test_made_of_a_text(self):
        for refusal in (ShortError, NoCode, NoReach, NoRow, NoAsk):
            with self.assertRaises(refusal) as taken:
                raise refusal("some words")
            self.assertEqual(str(taken.exception), "some words")

    def test_made_of_a_row(self):
        for row in (0, 7, 4000):
            self.assertEqual(NoProgram(row).row, row)

    def test_made_of_a_place(self):
        for place in (0, 7, 6000):
            self.assertEqual(NoBits(place).place, place)

    def test_each_object_has_its_own(self):
        first, second = NoProgram(1), NoProgram(2)
        self.assertEqual((first.row, second.row), (1, 2))
        first, second = NoBits(1), NoBits(2)
        self.assertEqual((first.place, second.place), (1, 2))

    def test_all_are_taken_as_short_error_and_value_error(self):
        for error in (NoCode("x"), NoReach("x"), NoRow("x"), NoAsk("x"), NoProgram(1), NoBits(1)):
            for above in (ShortError, ValueError):
                with self.assertRaises(above):
                    raise error

    def test_no_other_error_classes(self):
        found = [name for name, value in vars(errors).items() if isinstance(value, type)]
        self.assertEqual(sorted(found), sorted(["ShortError"] + [refusal.__name__ for refusal in REFUSALS]))


if __name__ == "__main__":
    unittest.main()
