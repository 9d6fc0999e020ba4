import unittest

from midpile.errors import Empty, MidError, NoShare, NoThing, NoWidth, Twice
from midpile.places import place

# The greatest and the least number of sixty figures.
MOST = 10 ** 60 - 1
LEAST = 10 ** 59


def counted_place(many, part, whole):
    if many == 0:
        return 0
    k = 1
    while k * whole < many * part:
        k += 1
    return k


class SmallPlaceTest(unittest.TestCase):
    def test_each_small_place_is_the_least_counted_up(self):
        for many in range(0, 26):
            for whole in range(1, 14):
                for part in range(0, whole + 1):
                    with self.subTest(many=many, part=part, whole=whole):
                        self.assertEqual(place(many, part, whole), counted_place(many, part, whole))

    def test_no_things(self):
        for part, whole in [(0, 1), (1, 1), (1, 2), (0, 7), (3, 7), (7, 7)]:
            with self.subTest(part=part, whole=whole):
                self.assertEqual(place(0, part, whole), 0)

    def test_one_thing(self):
        for part, whole in [(0, 1), (1, 1), (1, 2), (0, 7), (1, 7), (6, 7), (7, 7)]:
            with self.subTest(part=part, whole=whole):
                self.assertEqual(place(1, part, whole), 1)

    def test_part_0_is_the_first(self):
        for many in [1, 2, 3, 10, 2000]:
            for whole in [1, 2, 9]:
                with self.subTest(many=many, whole=whole):
                    self.assertEqual(place(many, 0, whole), 1)

    def test_part_the_whole_is_the_last(self):
        for many in [0, 1, 2, 3, 10, 2000]:
            for whole in [1, 2, 9]:
                with self.subTest(many=many, whole=whole):
                    self.assertEqual(place(many, whole, whole), many)

    def test_middle_of_odd_many(self):
        self.assertEqual([place(many, 1, 2) for many in [1, 3, 5, 7, 1999]], [1, 2, 3, 4, 1000])

    def test_middle_of_even_many(self):
        self.assertEqual([place(many, 1, 2) for many in [2, 4, 6, 8, 2000]], [1, 2, 3, 4, 1000])

    def test_many_that_the_whole_divides(self):
        self.assertEqual([place(12, part, 4) for part in range(5)], [1, 3, 6, 9, 12])

    def test_many_that_the_whole_does_not_divide(self):
        self.assertEqual([place(10, part, 4) for part in range(5)], [1, 3, 5, 8, 10])

    def test_fewer_things_than_the_whole(self):
        self.assertEqual([place(3, part, 100) for part in [0, 1, 33, 34, 66, 67, 100]], [1, 1, 1, 2, 2, 3, 3])

    def test_not_in_lowest_terms(self):
        for many in range(0, 12):
            with self.subTest(many=many):
                self.assertEqual(place(many, 6, 12), place(many, 1, 2))

    def test_arguments_by_their_names(self):
        self.assertEqual(place(whole=4, part=3, many=10), 8)


class GreatPlaceTest(unittest.TestCase):
    def assert_least(self, many, part, whole):
        k = place(many, part, whole)
        self.assertGreaterEqual(k, 1)
        self.assertGreaterEqual(k * whole, many * part)
        if k > 1:
            self.assertLess((k - 1) * whole, many * part)

    def test_great_many(self):
        self.assertEqual(place(LEAST, 1, 2), 5 * 10 ** 58)
        self.assertEqual(place(LEAST + 1, 1, 2), 5 * 10 ** 58 + 1)
        self.assertEqual(place(MOST, 1, 2), 5 * 10 ** 59)
        self.assertEqual(place(MOST - 1, 1, 2), 5 * 10 ** 59 - 1)
        self.assertEqual(place(MOST, 1, 9), (10 ** 60 - 1) // 9)
        self.assertEqual(place(MOST - 1, 1, 9), (10 ** 60 - 1) // 9)

    def test_great_whole_of_few_things(self):
        self.assertEqual(place(0, 1, MOST), 0)
        self.assertEqual(place(1, 1, MOST), 1)
        self.assertEqual(place(2, MOST - 1, MOST), 2)
        self.assertEqual(place(2, LEAST * 5, LEAST * 10 - 2), 2)
        self.assertEqual(place(2, LEAST * 4, LEAST * 8), 1)
        self.assertEqual(place(2, LEAST * 4 + 1, LEAST * 8), 2)

    def test_all_three_great(self):
        self.assertEqual(place(MOST, MOST - 1, MOST), MOST - 1)
        self.assertEqual(place(MOST - 1, MOST - 1, MOST), MOST - 1)
        self.assertEqual(place(LEAST, LEAST, 5 * LEAST), 2 * 10 ** 58)
        self.assertEqual(place(LEAST + 1, LEAST, 5 * LEAST), 2 * 10 ** 58 + 1)

    def test_ends_of_great_many(self):
        for whole in [1, 2, LEAST, MOST]:
            with self.subTest(whole=whole):
                self.assertEqual(place(MOST, 0, whole), 1)
                self.assertEqual(place(MOST, whole, whole), MOST)

    def test_each_great_place_is_the_least(self):
        greats = [1, 2, 3, 7, LEAST - 1, LEAST, LEAST + 1, 123456789 ** 6, MOST // 3, MOST // 2, MOST - 1, MOST]
        for many in greats:
            for whole in greats:
                for part in [0] + greats:
                    if part <= whole:
                        with self.subTest(many=many, part=part, whole=whole):
                            self.assert_least(many, part, whole)

    def test_somewhat_beyond_sixty_figures(self):
        self.assertEqual(place(10 ** 80, 1, 2), 5 * 10 ** 79)
        self.assertEqual(place(10 ** 80, 10 ** 70, 10 ** 71), 10 ** 79)


class KindTest(unittest.TestCase):
    def test_a_place_is_an_int_that_is_no_truth(self):
        for many in [0, 1, 2, 3, MOST]:
            for part, whole in [(0, 1), (1, 1), (0, 2), (1, 2), (2, 2), (1, MOST), (MOST, MOST)]:
                with self.subTest(many=many, part=part, whole=whole):
                    self.assertIs(type(place(many, part, whole)), int)


SMALL_REFUSED = [
    (-1, 2), (-1, 1), (-7, 3),
    (2, 1), (3, 2), (8, 7),
    (1, 0), (5, 0), (-1, 0), (0, 0),
    (0, -1), (1, -1), (-1, -1), (-1, -2), (-2, -1), (1, -2),
]
GREAT_REFUSED = [
    (-MOST, MOST), (-LEAST, 1), (-1, MOST), (-MOST, 2),
    (MOST, MOST - 1), (LEAST + 1, LEAST), (MOST, 1), (MOST, 2),
    (MOST, 0), (-MOST, 0), (LEAST, 0),
    (0, -MOST), (1, -LEAST), (MOST, -MOST), (-MOST, -MOST), (-LEAST, -MOST), (-MOST, -LEAST),
]


class RefusalTest(unittest.TestCase):
    def assert_refused(self, many, part, whole):
        with self.subTest(many=many, part=part, whole=whole):
            with self.assertRaises(NoShare) as taken:
                place(many, part, whole)
            self.assertIsInstance(taken.exception, MidError)
            self.assertNotIsInstance(taken.exception, (NoThing, Empty, Twice, NoWidth))

    def test_no_share_of_no_things(self):
        for part, whole in SMALL_REFUSED + GREAT_REFUSED:
            self.assert_refused(0, part, whole)

    def test_no_share_of_things(self):
        for many in [1, 2, 5, 2000, LEAST, MOST]:
            for part, whole in SMALL_REFUSED + GREAT_REFUSED:
                self.assert_refused(many, part, whole)

    def test_no_share_of_thousands_of_figures(self):
        self.assert_refused(1, -10 ** 5000, 1)
        self.assert_refused(0, 10 ** 5000, 1)

    def test_just_within_is_not_refused(self):
        for part, whole in [(0, 1), (1, 1), (0, MOST), (MOST, MOST), (1, MOST), (MOST - 1, MOST)]:
            for many in [0, 1, 5, MOST]:
                with self.subTest(many=many, part=part, whole=whole):
                    place(many, part, whole)


class SameAnswerTest(unittest.TestCase):
    def test_refused_ones_between_change_nothing(self):
        asked = [(0, 1, 2), (1, 1, 2), (10, 3, 4), (10, 0, 4), (MOST, 1, 2), (MOST, LEAST, MOST)]
        before = [place(many, part, whole) for many, part, whole in asked]
        for part, whole in SMALL_REFUSED + GREAT_REFUSED:
            for many in [0, 10, MOST]:
                for again in range(2):
                    with self.assertRaises(NoShare):
                        place(many, part, whole)
            self.assertEqual([place(*each) for each in asked], before)
        self.assertEqual([place(*each) for each in reversed(asked)], before[::-1])


if __name__ == "__main__":
    unittest.main()
