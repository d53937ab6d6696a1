"""The examples of README.md are true."""

import doctest
import pathlib
import unittest


class ReadmeTest(unittest.TestCase):
    def test_examples(self):
        path = pathlib.Path(__file__).resolve().parent.parent / "README.md"
        told = doctest.testfile(str(path), module_relative=False)
        self.assertGreater(told.attempted, 10)
        self.assertEqual(told.failed, 0)


if __name__ == "__main__":
    unittest.main()
