import unittest

from formkin import errors

OF_A_TEXT = ["BadNumber", "BadRow", "BadCheck", "NoKey", "BadVersion"]
WITH_FIELDS = {
    "BadBook": {"place": 3, "why": "kind"},
    "BadValue": {"path": ["name", 0, "other"]},
    "BadText": {"place": 7},
    "BadWire": {"place": 12, "why": "cut"},
    "NotKin": {"form": "person", "number": 5},
}


class Classes(unittest.TestCase):
    def test_a_refusal_is_a_value_error(self):
        self.assertEqual(errors.FormError.__bases__, (ValueError,))

    def test_each_stands_straight_under_form_error(self):
        for name in OF_A_TEXT + list(WITH_FIELDS):
            with self.subTest(name):
                self.assertEqual(getattr(errors, name).__bases__, (errors.FormError,))

    def test_there_are_no_others(self):
        classes = {name for name, thing in vars(errors).items() if isinstance(thing, type)}
        self.assertEqual(classes, {"FormError"} | set(OF_A_TEXT) | set(WITH_FIELDS))


class Making(unittest.TestCase):
    def test_made_of_a_text(self):
        for name in ["FormError"] + OF_A_TEXT:
            with self.subTest(name):
                error = getattr(errors, name)("some words")
                self.assertEqual(str(error), "some words")
                self.assertEqual(vars(error), {})

    def test_fields_by_order(self):
        for name, fields in WITH_FIELDS.items():
            with self.subTest(name):
                self.assertEqual(vars(getattr(errors, name)(*fields.values())), fields)

    def test_fields_by_name(self):
        for name, fields in WITH_FIELDS.items():
            with self.subTest(name):
                self.assertEqual(vars(getattr(errors, name)(**fields)), fields)

    def test_each_has_words(self):
        for name, fields in WITH_FIELDS.items():
            with self.subTest(name):
                self.assertNotEqual(str(getattr(errors, name)(*fields.values())), "")

    def test_raised_and_taken_as_form_error(self):
        for name, fields in WITH_FIELDS.items():
            with self.subTest(name):
                with self.assertRaises(errors.FormError):
                    raise getattr(errors, name)(*fields.values())


class Path(unittest.TestCase):
    def test_the_path_of_bad_value_is_its_own(self):
        path = ["name", 0]
        error = errors.BadValue(path)
        path.append("more")
        self.assertEqual(error.path, ["name", 0])
        error.path.append("other")
        self.assertEqual(path, ["name", 0, "more"])

    def test_the_path_handed_in_is_kept_nowhere(self):
        path = ["name"]
        error = errors.BadValue(path)
        self.assertFalse(any(part is path for part in error.args))

    def test_two_errors_of_one_path_share_nothing(self):
        path = ["name"]
        one = errors.BadValue(path)
        other = errors.BadValue(path)
        one.path.clear()
        self.assertEqual(other.path, ["name"])

    def test_the_path_is_a_list(self):
        self.assertIs(type(errors.BadValue([]).path), list)
        self.assertEqual(errors.BadValue([]).path, [])


if __name__ == "__main__":
    unittest.main()
