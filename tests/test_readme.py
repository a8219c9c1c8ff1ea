"""The examples of README.md."""

import doctest
import unittest
from pathlib import Path


class Readme(unittest.TestCase):
    def test_each_example(self):
        found = doctest.testfile(str(Path(__file__).resolve().parent.parent / "README.md"), module_relative=False)
        self.assertEqual(found.failed, 0)
        self.assertGreater(found.attempted, 40)


if __name__ == "__main__":
    unittest.main()
