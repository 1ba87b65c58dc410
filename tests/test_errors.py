import unittest

from tests import helper
from wishreels import errors

WITH = {
    "NoRouter": ["router"], "BadWishes": ["router"], "TooMany": ["most"], "BadStep": ["step"], "BadRoles": ["part"],
    "BadRule": ["part"], "BadPolicy": ["index"], "BadNet": ["part"], "BadFlood": ["part"], "BadDeeds": ["index"],
    "BadCosts": ["part"], "BadAreas": ["router"], "BadLine": ["a", "b"], "BadTable": ["index"],
    "BadField": ["router"], "BadText": ["line"], "NoName": ["name"],
}
WITHOUT = [
    "BadWays", "BadLinks", "BadStand", "BadNumber", "BadTaking", "BadRing", "BadRouters", "BadPattern", "BadRow",
    "BadTags", "BadWay", "BadDeed", "BadAddress", "BadRanges", "BadWord", "NoLine", "NothingDone",
]


class ErrorsTest(unittest.TestCase):
    def test_all_are_directly_below_wish_error(self):
        self.assertEqual(errors.WishError.__bases__, (ValueError,))
        for name in list(WITH) + WITHOUT:
            self.assertEqual(getattr(errors, name).__bases__, (errors.WishError,), name)

    def test_there_are_no_others(self):
        names = [name for name in vars(errors) if isinstance(getattr(errors, name), type)]
        self.assertEqual(sorted(names), sorted(list(WITH) + WITHOUT + ["WishError"]))

    def test_all_are_defined_there(self):
        for name in list(WITH) + WITHOUT:
            self.assertEqual(getattr(errors, name).__module__, "wishreels.errors")

    def test_attributes_keep_any_object_as_passed(self):
        for name, attributes in WITH.items():
            for thing in helper.wrong_things():
                made = getattr(errors, name)(*[thing] * len(attributes))
                for attribute in attributes:
                    self.assertIs(getattr(made, attribute), thing)

    def test_a_line_has_its_two_ends(self):
        made = errors.BadLine(3, 5)
        self.assertEqual((made.a, made.b), (3, 5))

    def test_those_without_attributes_are_made_with_nothing(self):
        for name in WITHOUT:
            with self.assertRaises(errors.WishError):
                raise getattr(errors, name)()


if __name__ == "__main__":
    unittest.main()
