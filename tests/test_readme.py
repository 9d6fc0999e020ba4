import doctest
import os
import unittest

README = os.path.join(os.path.dirname(os.path.dirname(os.path.abspath(__file__))), "README.md")


class ReadmeTest(unittest.TestCase):
    def test_what_the_readme_shows_is_what_is_told(self):
        failed, tried = doctest.testfile(README, module_relative=False, encoding="utf-8")
        self.assertGreater(tried, 0)
        self.assertEqual(failed, 0)


if __name__ == "__main__":
    unittest.main()
