import unittest

from shapelang import bounds

VALUES = {
    "VARIABLES": 199, "NODES": 200, "DEPTH": 30, "GROUPS": 80, "LISTED": 50, "DATAS": 6, "PLACES": 60,
    "ROWS": 8, "MET": 200, "SIZES": 40, "FORM": 500, "TREE": 1000, "DEFINITIONS": 8, "CALLS": 2000,
    "SHOWN": 500, "PARAMETERS": 3, "EDITS": 60, "BATCH": 20,
}


class Bounds(unittest.TestCase):
    def test_all_values(self):
        for name, value in VALUES.items():
            self.assertEqual(getattr(bounds, name), value, name)
            self.assertIs(type(getattr(bounds, name)), int, name)


if __name__ == "__main__":
    unittest.main()
