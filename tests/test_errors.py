import unittest

from midpile import errors
from midpile.errors import Empty, MidError, NoShare, NoThing, NoWidth, Twice

FIVE = [NoShare, NoThing, Empty, Twice, NoWidth]


def is_taken(raised, name):
    try:
        raise raised("words")
    except name:
        return True
    except BaseException:
        return False


class ErrorsTest(unittest.TestCase):
    def test_all_are_there_under_their_names(self):
        for name in ["MidError", "NoShare", "NoThing", "Empty", "Twice", "NoWidth"]:
            with self.subTest(name=name):
                self.assertEqual(getattr(errors, name).__name__, name)

    def test_five_unlike_classes(self):
        self.assertEqual(len(set(FIVE + [MidError])), 6)

    def test_mid_error_stands_straight_under_value_error(self):
        self.assertEqual(MidError.__bases__, (ValueError,))
        self.assertTrue(is_taken(MidError, ValueError))

    def test_each_stands_straight_under_mid_error(self):
        for each in FIVE:
            with self.subTest(each=each):
                self.assertEqual(each.__bases__, (MidError,))

    def test_each_is_taken_by_its_own_name_mid_error_and_value_error(self):
        for each in FIVE:
            for name in [each, MidError, ValueError]:
                with self.subTest(each=each, name=name):
                    self.assertTrue(is_taken(each, name))

    def test_none_is_taken_by_the_name_of_another(self):
        for each in FIVE:
            for other in FIVE:
                if other is not each:
                    with self.subTest(each=each, other=other):
                        self.assertFalse(is_taken(each, other))

    def test_mid_error_is_taken_by_none_of_the_five(self):
        for name in FIVE:
            with self.subTest(name=name):
                self.assertFalse(is_taken(MidError, name))


if __name__ == "__main__":
    unittest.main()
