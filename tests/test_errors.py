import unittest

from shapelang import errors

VALUE_ERRORS = {
    "BadShape": ("value",), "BadCount": ("value",), "NoMeeting": (), "NoSolution": (), "TooMany": ("limit",),
    "TooLarge": ("limit",), "Clash": ("places",), "BadChain": ("index",), "BadValue": ("value",),
    "BadForm": ("form",), "BadSize": ("size",), "NoValue": ("value",), "HasValues": (), "NotMet": ("value",),
    "Idle": ("number",), "BadRows": ("error",), "BadBook": ("error",), "HasHole": ("spot",),
    "NotPlain": ("index",), "BadDatas": ("error",), "Used": ("word",), "Refused": ("index", "verdict"),
    "TooManyEdits": (), "NothingToUndo": (), "BadEdits": (), "BadEdit": ("index",), "Rejected": ("index",),
    "Busy": (), "BadExpression": ("error",), "Incomplete": ("word", "place", "outline"), "BadText": ("index",),
}
LOOKUP_ERRORS = {
    "NoPlace": ("value",), "NoMaker": ("name",), "NoIndex": ("index",), "NoRow": ("number",),
    "NoDefinition": ("value",), "NoWord": ("word",), "NoVersion": ("value",),
}


class Errors(unittest.TestCase):
    def made(self, name, fields):
        values = [[name, field] for field in fields]
        error = getattr(errors, name)(*values)
        for field, value in zip(fields, values):
            self.assertIs(getattr(error, field), value)
            value.append("later")
            self.assertEqual(getattr(error, field), [name, field, "later"])
        self.assertEqual(set(vars(error)), set(fields))
        return error

    def test_errors_of_values_have_their_fields_and_bases(self):
        for name, fields in VALUE_ERRORS.items():
            error = self.made(name, fields)
            self.assertEqual(type(error).__bases__, (errors.LangError,))
            self.assertIsInstance(error, ValueError)
            self.assertNotIsInstance(error, LookupError)

    def test_errors_of_lookups_have_their_fields_and_bases(self):
        for name, fields in LOOKUP_ERRORS.items():
            error = self.made(name, fields)
            self.assertEqual(type(error).__bases__, (LookupError,))
            self.assertNotIsInstance(error, ValueError)

    def test_the_base(self):
        self.assertEqual(errors.LangError.__bases__, (ValueError,))
        self.assertIsInstance(errors.LangError(), ValueError)

    def test_the_list_is_whole(self):
        found = [name for name, value in vars(errors).items() if isinstance(value, type)]
        self.assertEqual(sorted(found), sorted(["LangError", *VALUE_ERRORS, *LOOKUP_ERRORS]))

    def test_no_class_lies_under_another_one(self):
        classes = [getattr(errors, name) for name in [*VALUE_ERRORS, *LOOKUP_ERRORS]]
        for one in classes:
            self.assertEqual([other for other in classes if issubclass(one, other)], [one])


if __name__ == "__main__":
    unittest.main()
