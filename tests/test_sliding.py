import unittest

from checks import (LEAST, MOST, REFUSED_SHARES, SHARES, assert_refused, assert_thing, counted_place, in_order,
                    number_rows)
from midpile.errors import NoShare, NoWidth
from midpile.sliding import slide


def counted_slide(numbers, width, part, whole):
    told = []
    for first in range(len(numbers) - width + 1):
        window = [(numbers[at], at) for at in range(first, first + width)]
        told.append(in_order(window)[counted_place(width, part, whole) - 1])
    return told


class SlideTest(unittest.TestCase):
    def assert_slides(self, numbers, width, part, whole):
        handed = list(numbers)
        told = slide(handed, width, part, whole)
        self.assertIs(type(told), list)
        for thing in told:
            assert_thing(self, thing)
        self.assertEqual(told, counted_slide(numbers, width, part, whole))
        self.assertEqual(handed, numbers)

    def test_each_window_put_in_order(self):
        for part, whole in SHARES:
            for many in [0, 1, 2, 3, 4, 7, 8, 25]:
                for name, numbers in number_rows(many).items():
                    for width in [1, 2, 3, 4, 7, max(1, many - 1), max(1, many), many + 1, many + 2]:
                        with self.subTest(part=part, whole=whole, many=many, numbers=name, width=width):
                            self.assert_slides(numbers, width, part, whole)

    def test_lists_of_some_hundred(self):
        for part, whole in [(1, 2), (1, 4), (LEAST, MOST)]:
            for name, numbers in number_rows(300).items():
                for width in [1, 2, 31, 32, 299, 300, 301]:
                    with self.subTest(part=part, whole=whole, numbers=name, width=width):
                        self.assert_slides(numbers, width, part, whole)

    def test_two_thousand(self):
        numbers = number_rows(2000)["great"]
        self.assert_slides(numbers, 1990, 1, 2)
        self.assert_slides(numbers, 2000, 2, 3)
        self.assert_slides(numbers, 3, 1, 2)

    def test_by_hand(self):
        self.assertEqual(slide([5, 1, 4, 4, 2], 3, 1, 2), [(4, 2), (4, 2), (4, 2)])
        self.assertEqual(slide([5, 1, 4, 4, 2], 3, 0, 1), [(1, 1), (1, 1), (2, 4)])
        self.assertEqual(slide([5, 1, 4, 4, 2], 3, 1, 1), [(5, 0), (4, 3), (4, 3)])
        self.assertEqual(slide([5, 1, 4, 4, 2], 2, 1, 2), [(1, 1), (1, 1), (4, 2), (2, 4)])

    def test_width_1(self):
        for part, whole in SHARES:
            self.assertEqual(slide([7, 7, -1, 0, 2], 1, part, whole),
                             [(7, 0), (7, 1), (-1, 2), (0, 3), (2, 4)])

    def test_width_of_the_length_and_one_more(self):
        self.assertEqual(slide([9, 8, 7], 3, 1, 2), [(8, 1)])
        self.assertEqual(slide([9, 8, 7], 4, 1, 2), [])
        self.assertEqual(slide([9], 1, 1, 2), [(9, 0)])
        self.assertEqual(slide([9], 2, 1, 2), [])

    def test_a_great_width_has_no_window(self):
        for width in [2001, LEAST, MOST]:
            self.assertEqual(slide([1, 2, 3], width, 1, 2), [])
            self.assertEqual(slide([], width, 1, 2), [])

    def test_an_empty_list(self):
        for part, whole in SHARES:
            for width in [1, 2, 9]:
                self.assertEqual(slide([], width, part, whole), [])

    def test_of_alike_numbers_the_earlier_one_first(self):
        self.assertEqual(slide([6] * 5, 3, 0, 1), [(6, 0), (6, 1), (6, 2)])
        self.assertEqual(slide([6] * 5, 3, 1, 2), [(6, 1), (6, 2), (6, 3)])
        self.assertEqual(slide([6] * 5, 3, 1, 1), [(6, 2), (6, 3), (6, 4)])

    def test_without_a_share_it_is_the_middle(self):
        for many in [0, 1, 5, 30]:
            numbers = number_rows(many)["mixed"]
            for width in [1, 2, 3, 4]:
                self.assertEqual(slide(numbers, width), counted_slide(numbers, width, 1, 2))

    def test_with_a_part_alone(self):
        numbers = number_rows(30)["mixed"]
        for width in [1, 2, 3, 4]:
            for part in [0, 1, 2]:
                self.assertEqual(slide(numbers, width, part), counted_slide(numbers, width, part, 2))

    def test_arguments_by_their_names(self):
        told = slide(whole=3, part=3, width=2, numbers=[1, 3, 2])
        self.assertEqual(told, [(3, 1), (3, 1)])
        self.assertEqual(slide([1, 3, 2, 9], 4, whole=4), [(1, 0)])

    def test_lists_are_new_ones(self):
        numbers = [3, 1, 2]
        told = slide(numbers, 2)
        told.clear()
        self.assertEqual(slide(numbers, 2), [(1, 1), (1, 1)])
        kept = slide(numbers, 2)
        numbers.clear()
        self.assertEqual(kept, [(1, 1), (1, 1)])


class RefusalTest(unittest.TestCase):
    def assert_refused(self, name, numbers, *others):
        handed = list(numbers)
        with self.subTest(numbers=numbers, others=others):
            assert_refused(self, name, lambda: slide(handed, *others))
            self.assertEqual(handed, numbers)

    def test_no_share_of_any_list_and_width(self):
        for part, whole in REFUSED_SHARES:
            for numbers in [[], [4], [4, 2, 9]]:
                for width in [1, 2, 3, 4, MOST]:
                    self.assert_refused(NoShare, numbers, width, part, whole)

    def test_no_share_ahead_of_no_width(self):
        for part, whole in REFUSED_SHARES:
            for numbers in [[], [4], [4, 2, 9]]:
                for width in [0, -1, -MOST]:
                    self.assert_refused(NoShare, numbers, width, part, whole)

    def test_no_share_of_a_part_alone(self):
        for part in [-1, 3, MOST]:
            for width in [0, 1, 2]:
                self.assert_refused(NoShare, [4, 2, 9], width, part)

    def test_no_width_of_any_list(self):
        for width in [0, -1, -2, -MOST]:
            for numbers in [[], [4], [4, 2, 9]]:
                self.assert_refused(NoWidth, numbers, width)
                self.assert_refused(NoWidth, numbers, width, 2)
                for part, whole in SHARES:
                    self.assert_refused(NoWidth, numbers, width, part, whole)


if __name__ == "__main__":
    unittest.main()
