"""Points 2 and 9: readings of versions and their order for all rising values."""

import itertools
import random
import unittest

from digitsturn.errors import BadValues, BadVersions
from digitsturn.versions import is_at_most, reading, shown


def rising_rows(cells, digits, versions):
    """Return all rising rows of values of so many cells, digits and versions."""
    values = list(itertools.product(range(digits), repeat=cells))
    return list(itertools.combinations_with_replacement(values, versions))


def read(values, versions):
    return tuple(values[version][cell] for cell, version in enumerate(versions))


class ReadingTest(unittest.TestCase):
    def test_the_example_of_the_document(self):
        told = [reading([(0, 9), (1, 0)], [0, 1]), is_at_most([1, 2], [2, 2]), is_at_most([0, 0], [0, 1]),
                shown([1, 0], [1, 1])]
        self.assertEqual(told, [(0, 0), True, False, [(0, 1), (1, 0)]])

    def test_reading(self):
        values = [(0, 0, 9), (0, 1, 0), (2, 0, 5)]
        for versions in itertools.product(range(3), repeat=3):
            self.assertEqual(reading(values, list(versions)), read(values, versions))
        self.assertEqual(reading([(7,)], [0]), (7,))
        self.assertEqual(reading([(7,), (7,), (10 ** 999,)], [2]), (10 ** 999,))

    def test_kinds(self):
        for values in ([[0, 9], [1, 0]], ((0, 9), (1, 0)), ([0, 9], [1, 0])):
            for versions in ([1, 0], (1, 0)):
                told = reading(values, versions)
                self.assertEqual(told, (1, 9))
                self.assertIs(type(told), tuple)

    def test_arguments_stay_as_they_were(self):
        values, versions, other = [[0, 9], [1, 0]], [1, 0], [1, 1]
        reading(values, versions)
        is_at_most(versions, other)
        shown(versions, other)
        self.assertEqual((values, versions, other), ([[0, 9], [1, 0]], [1, 0], [1, 1]))

    def test_wrong_versions(self):
        values = [(0, 9), (1, 0)]
        for versions in ([], [0], [0, 0, 0], [0, 2], [2, 0], [-1, 0], [0, -1], [0, -2], [61, 0], [0, 10 ** 30], ()):
            with self.assertRaises(BadVersions):
                reading(values, versions)
        with self.assertRaises(BadVersions):
            reading([(4,)], [1])

    def told_index(self, values, versions):
        with self.assertRaises(BadValues) as caught:
            reading(values, versions)
        return caught.exception.index

    def test_wrong_values(self):
        self.assertEqual(self.told_index([], [0]), 0)
        self.assertEqual(self.told_index([()], [0]), 0)
        self.assertEqual(self.told_index([(1,), ()], [0]), 1)
        self.assertEqual(self.told_index([(1,), (1, 2)], [0]), 1)
        self.assertEqual(self.told_index([(1, 2), (1, 2), (1, 1)], [0, 0]), 2)

    def test_wrong_values_come_first(self):
        self.assertEqual(self.told_index([], []), 0)
        self.assertEqual(self.told_index([()], []), 0)
        self.assertEqual(self.told_index([(2,), (1,)], [0, 0]), 1)
        self.assertEqual(self.told_index([(2,), (1,)], [5]), 1)


class OrderTest(unittest.TestCase):
    def compare(self, cells, digits, versions):
        rows = rising_rows(cells, digits, versions)
        lists = list(itertools.product(range(versions), repeat=cells))
        readings = {one: [read(values, one) for values in rows] for one in lists}
        for one, other in itertools.product(lists, repeat=2):
            told = all(low <= high for low, high in zip(readings[one], readings[other]))
            self.assertIs(is_at_most(list(one), list(other)), told, (one, other))
            self.check_shown(one, other, told)

    def check_shown(self, one, other, is_so):
        values = shown(list(one), list(other))
        if is_so:
            self.assertIsNone(values)
            return
        self.assertIs(type(values), list)
        self.assertEqual({type(value) for value in values}, {tuple})
        self.assertEqual(len(values), max(one + other) + 1)
        self.assertGreater(reading(values, one), reading(values, other))
        self.check_form(values, len(one))

    def check_form(self, values, cells):
        """Only zeros, but for one cell with 0, then 1, or for two cells with 01, then 10."""
        low, high = values[0], values[-1]
        turn = values.index(high)
        self.assertEqual(values, [low] * turn + [high] * (len(values) - turn))
        self.assertTrue(all(len(value) == cells for value in values))
        changes = [(low[cell], high[cell]) for cell in range(cells) if low[cell] or high[cell]]
        self.assertIn(changes, ([(0, 1)], [(0, 1), (1, 0)]))

    def test_one_cell(self):
        self.compare(1, 5, 5)

    def test_two_cells(self):
        self.compare(2, 3, 4)

    def test_three_cells(self):
        self.compare(3, 2, 3)

    def test_four_cells(self):
        self.compare(4, 2, 2)

    def test_shown_for_longer_lists(self):
        pick = random.Random(9)
        found = 0
        for _ in range(3000):
            cells = pick.randint(2, 6)
            one = tuple(pick.randint(0, 3) for _ in range(cells))
            other = tuple(min(6, version + pick.choice([0, 0, 0, 1, 2])) for version in one)
            is_so = is_at_most(one, other)
            found += is_so
            self.check_shown(one, other, is_so)
            for values in (sorted(tuple(pick.randint(0, 2) for _ in range(cells)) for _ in range(7)) for _ in range(3)):
                if is_so:
                    self.assertLessEqual(reading(values, one), reading(values, other))
        self.assertTrue(300 < found < 2700)

    def test_the_longest_lists(self):
        self.assertTrue(is_at_most([60] * 60, [60] * 60))
        self.assertTrue(is_at_most([0] * 60, [60] * 60))
        self.assertTrue(is_at_most([0] * 30 + [60] * 30, [60] * 60))
        self.assertFalse(is_at_most([60] * 59 + [0], [60] * 60))
        self.check_shown((60,) * 59 + (0,), (60,) * 60, False)
        self.check_shown((0,) * 60, (0,) * 59 + (60,), False)
        self.check_shown((0,) * 59 + (60,), (60,) * 59 + (59,), False)

    def test_unlike_versions_may_be_harmless(self):
        self.assertIs(is_at_most([1, 2], [2, 2]), True)
        self.assertIs(is_at_most((1, 2), [2, 2]), True)
        self.assertIsNone(shown((1, 2), (2, 2)))

    def test_each_part_of_the_condition(self):
        self.assertTrue(is_at_most([0, 1], [2, 2]))
        self.assertTrue(is_at_most([0, 1], [3, 2]))
        self.assertFalse(is_at_most([1, 0], [2, 2]))
        self.assertFalse(is_at_most([0, 0], [1, 2]))
        self.assertFalse(is_at_most([0, 2], [0, 1]))
        self.assertFalse(is_at_most([2, 0], [1, 0]))

    def test_values_reach_to_the_greatest_version_of_both_lists(self):
        for one, other in (([1, 0], [0, 5]), ([5, 0], [0, 1]), ([0, 0], [0, 7]), ([0, 0, 4], [0, 0, 3])):
            self.assertEqual(len(shown(one, other)), max(one + other) + 1)

    def test_what_is_told_is_new_each_time(self):
        first = shown([1, 0], [1, 1])
        first.clear()
        self.assertEqual(shown([1, 0], [1, 1]), [(0, 1), (1, 0)])

    def test_lists_that_do_not_fit(self):
        for one, other in (([], []), ([0], []), ([], [0]), ([0], [0, 0]), ([0, 0], [0]), ((), ()), ([5, 0, 0], [1, 1])):
            with self.assertRaises(BadVersions):
                is_at_most(one, other)
            with self.assertRaises(BadVersions):
                shown(one, other)


if __name__ == "__main__":
    unittest.main()
