"""The interface of slotwright/errors.py: the refusals, their order beneath one another, their attributes."""

import unittest

from slotwright import errors

PLAIN = ("BadName", "BadNumber", "BadWay", "BadEnds", "BadLine", "Full", "NoRoom", "NoStep", "TooFew", "BadPage")
NAMED = ("Taken", "NoName", "InUse", "Tight")
ALL = PLAIN + NAMED + ("Late", "Heavy", "NoPlan")


def error_class(name):
    return getattr(errors, name)


class Beneath(unittest.TestCase):
    def test_there_are_seventeen_and_no_other(self):
        found = [name for name, value in vars(errors).items()
                 if isinstance(value, type) and value.__module__ == "slotwright.errors"]
        self.assertEqual(sorted(found), sorted(ALL + ("NetError",)))
        self.assertEqual(len(ALL), 17)

    def test_any_refusal_is_a_value_error(self):
        self.assertTrue(issubclass(errors.NetError, ValueError))

    def test_each_is_beneath_net_error_and_none_beneath_another(self):
        for name in ALL:
            for other in ALL:
                with self.subTest(name=name, other=other):
                    self.assertEqual(issubclass(error_class(name), error_class(other)), name == other)
            self.assertTrue(issubclass(error_class(name), errors.NetError))


class Attributes(unittest.TestCase):
    def test_those_without_attributes_take_a_message(self):
        for name in PLAIN:
            with self.subTest(name=name):
                self.assertIn("why", str(error_class(name)("why")))

    def test_those_with_a_name(self):
        for name in NAMED:
            with self.subTest(name=name):
                self.assertEqual(error_class(name)("abc").name, "abc")

    def test_late_bears_a_name_and_a_least(self):
        error = errors.Late("abc", 17)
        self.assertEqual((error.name, error.least), ("abc", 17))

    def test_heavy_bears_cases_however_many(self):
        for cases in (0, 401, 10 ** 5000):
            self.assertTrue(errors.Heavy(cases).cases == cases)

    def test_no_plan_bears_a_list_of_its_own(self):
        names = ["a", "b"]
        error = errors.NoPlan(names)
        names.append("c")
        self.assertEqual(error.lot, ["a", "b"])
        error.lot.append("d")
        self.assertEqual(names, ["a", "b", "c"])


if __name__ == "__main__":
    unittest.main()
