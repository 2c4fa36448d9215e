"""The interface of trueroots.errors."""

import unittest

from trueroots import errors

UNDER = {
    "RootError": "ValueError",
    "NoSuch": "RootError",
    "NoValue": "RootError",
    "NoRatio": "NoSuch",
    "NoPoly": "NoSuch",
    "NoPrime": "NoSuch",
    "NoElement": "NoSuch",
    "NoFormula": "NoSuch",
    "NoTree": "NoSuch",
    "NoText": "NoSuch",
    "NoName": "NoSuch",
    "NoRoot": "NoValue",
    "NoReal": "NoValue",
    "NoDivision": "NoValue",
    "TooGreat": "NoValue",
    "Folds": "NoValue",
    "NothingBetween": "NoValue",
    "NothingLeft": "NoValue",
    "Ring": "NoValue",
    "Full": "NoValue",
    "NothingDone": "NoValue",
}
FIELDS = {"NoName": "name", "NoRoot": "many", "TooGreat": "degree", "Ring": "ring"}


def above(name):
    """The names of a class and of all that it stands under."""
    names = [name]
    while names[-1] in UNDER:
        names.append(UNDER[names[-1]])
    return names


class Classes(unittest.TestCase):
    def test_each_stands_directly_under_the_one_it_is_said_to(self):
        for name in UNDER:
            bases = [base.__name__ for base in getattr(errors, name).__bases__]
            self.assertEqual(bases, [UNDER[name]], name)

    def test_none_stands_under_another_one_but_so(self):
        for low in UNDER:
            for high in UNDER:
                told = issubclass(getattr(errors, low), getattr(errors, high))
                self.assertEqual(told, high in above(low), (low, high))

    def test_there_is_no_other_error(self):
        found = [name for name, thing in vars(errors).items() if isinstance(thing, type)]
        self.assertEqual(sorted(found), sorted(UNDER))

    def test_all_are_value_errors(self):
        for name in UNDER:
            self.assertTrue(issubclass(getattr(errors, name), ValueError), name)


class Fields(unittest.TestCase):
    def test_fields_are_set_when_the_object_is_created(self):
        worths = {"NoName": ["a", "", None, 5, ("a", 1)], "NoRoot": [0, 3], "TooGreat": [13, 144],
                  "Ring": [("a",), ("b", "a")]}
        for name, field in FIELDS.items():
            for worth in worths[name]:
                error = getattr(errors, name)(worth)
                self.assertEqual(getattr(error, field), worth)
                self.assertIs(type(getattr(error, field)), type(worth))

    def test_the_others_have_no_field_and_take_a_message(self):
        for name in UNDER:
            if name not in FIELDS:
                self.assertEqual(vars(getattr(errors, name)("told")), {}, name)

    def test_a_list_handed_in_is_kept_as_a_copy(self):
        inner = ["b"]
        handed = ["a", inner, (1, inner)]
        error = errors.NoName(handed)
        self.assertEqual(error.name, ["a", ["b"], (1, ["b"])])
        inner.append("c")
        handed.clear()
        self.assertEqual(error.name, ["a", ["b"], (1, ["b"])])

    def test_two_errors_do_not_share_what_they_keep(self):
        handed = ["a"]
        one, other = errors.NoName(handed), errors.NoName(handed)
        one.name.append("b")
        self.assertEqual((handed, other.name), (["a"], ["a"]))

    def test_the_message_of_a_great_number_can_be_told(self):
        for name in FIELDS:
            self.assertIsInstance(str(getattr(errors, name)(10 ** 5000)), str)


if __name__ == "__main__":
    unittest.main()
