"""The sets of so many of the first indexes."""

import itertools
import unittest

from listandpage.choosing import choices


class ChoicesTest(unittest.TestCase):
    def test_all_sets_in_order(self):
        self.assertEqual(choices(4, 2), [(0, 1), (0, 2), (0, 3), (1, 2), (1, 3), (2, 3)])
        for count in range(8):
            for size in range(count + 2):
                self.assertEqual(choices(count, size), list(itertools.combinations(range(count), size)))

    def test_none_and_too_many(self):
        self.assertEqual(choices(0, 0), [()])
        self.assertEqual(choices(3, 0), [()])
        self.assertEqual(choices(2, 3), [])
