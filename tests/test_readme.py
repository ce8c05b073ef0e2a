import doctest
import pathlib
import unittest


class ReadmeTest(unittest.TestCase):
    def test_what_it_shows_is_so(self):
        readme = pathlib.Path(__file__).resolve().parent.parent / "README.md"
        result = doctest.testfile(str(readme), module_relative=False)
        self.assertEqual(result.failed, 0)
        self.assertGreater(result.attempted, 0)


if __name__ == "__main__":
    unittest.main()
