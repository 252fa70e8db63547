"""Days that come again, which feasts and houses count by."""

import unittest

from readround.cycles import Cycle, last_at_most, sums_ahead

SIZE = 12
FAR = 10 ** 60
SPANS = ([(0, 12)], [(0, 1)], [(11, 12)], [(3, 7)], [(0, 2), (2, 5), (9, 12)], [(1, 2), (4, 5), (10, 11)])


class Searching(unittest.TestCase):
    def test_last_at_most(self):
        for rising in ([0], [0, 3], [0, 3, 4, 9], [2, 5, 6, 7, 20]):
            for number in range(rising[0], 25):
                at = max(place for place, other in enumerate(rising) if other <= number)
                self.assertEqual(last_at_most(rising, number), at)

    def test_sums_ahead(self):
        self.assertEqual(sums_ahead([]), [])
        self.assertEqual(sums_ahead([4, 1, 7]), [0, 4, 5])


class Counting(unittest.TestCase):
    def test_against_a_walk(self):
        for spans in SPANS:
            cycle = Cycle(SIZE, spans)
            count = 0
            for day in range(4 * SIZE):
                self.assertEqual(cycle.ahead(day), count)
                if any(first <= day % SIZE < end for first, end in spans):
                    self.assertEqual(cycle.nth(count), day)
                    count += 1

    def test_far_turns(self):
        for spans in SPANS:
            cycle = Cycle(SIZE, spans)
            for day in range(SIZE):
                self.assertEqual(cycle.ahead(day + FAR * SIZE), cycle.ahead(day) + FAR * cycle.total)
            for number in range(cycle.total):
                self.assertEqual(cycle.nth(number + FAR * cycle.total), cycle.nth(number) + FAR * SIZE)

    def test_no_days(self):
        cycle = Cycle(SIZE, [])
        self.assertEqual(cycle.ahead(FAR), 0)
        self.assertIsNone(cycle.nth(0))


if __name__ == "__main__":
    unittest.main()
