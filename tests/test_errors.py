"""[2], [15], [18]: the classes of the refusals, and their fields."""

import unittest

from knotpurse.errors import Leaned, Passed, PurseError
from things import REFUSALS


class Classes(unittest.TestCase):
    def test_twelve_right_under_the_common_base(self):
        self.assertEqual(12, len(set(REFUSALS)))
        self.assertEqual((ValueError,), PurseError.__bases__)
        for refusal in REFUSALS:
            self.assertEqual((PurseError,), refusal.__bases__, refusal)

    def test_those_without_fields_are_made_of_nothing_or_of_a_text(self):
        for refusal in REFUSALS:
            if refusal not in (Passed, Leaned):
                self.assertIsInstance(refusal(), PurseError)
                self.assertEqual("why", str(refusal("why")))


class Fields(unittest.TestCase):
    def test_passed_has_day_and_place(self):
        for place in [("left", "food"), ("limit", 0), ("promise", 39)]:
            passed = Passed(7, place)
            self.assertEqual((7, place), (passed.day, passed.place))

    def test_leaned_has_numbers(self):
        self.assertEqual([1, 4, 39], Leaned([1, 4, 39]).numbers)
        self.assertIsInstance(Leaned([1]).numbers, list)

    def test_leaned_keeps_its_own_list(self):
        numbers = [1, 4]
        leaned = Leaned(numbers)
        numbers.append(5)
        self.assertEqual([1, 4], leaned.numbers)
        leaned.numbers.append(6)
        self.assertEqual([1, 4, 5], numbers)

    def test_each_keeps_its_own_fields(self):
        one, other = Passed(1, ("left", "a")), Passed(2, ("left", "b"))
        self.assertEqual((1, ("left", "a")), (one.day, one.place))
        self.assertEqual((2, ("left", "b")), (other.day, other.place))


if __name__ == "__main__":
    unittest.main()
