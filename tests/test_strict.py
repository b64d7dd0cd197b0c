"""Strict papers, and the dealings that show what they are tight at."""

import unittest

from tests.helper import best_ones, great_wishes, some_aims, some_wishes, tight_by_words
from wishdeal.best import best_dealing
from wishdeal.papers import lets_paper
from wishdeal.search import all_steps
from wishdeal.strict import all_roads, roads_from, shown_by_rounds, strict_paper, strict_prices, tight_steps
from wishdeal.worths import all_worths

STEPS = [(0, 1, 5, 0), (1, 2, 5, 1), (2, 0, 5, 2), (2, 3, 5, 3)]


class Roads(unittest.TestCase):
    def test_roads(self):
        self.assertEqual(roads_from(0, 4, STEPS), {0: [], 1: STEPS[:1], 2: STEPS[:2], 3: STEPS[:2] + STEPS[3:]})
        self.assertEqual(roads_from(3, 4, STEPS), {3: []})
        self.assertEqual(all_roads(4, STEPS)[1], {1: [], 2: STEPS[1:2], 0: STEPS[1:3], 3: [STEPS[1], STEPS[3]]})

    def test_roads_against_the_order_of_the_steps(self):
        steps = [(3, 4, 0, 0), (2, 3, 0, 1), (1, 2, 0, 2), (0, 1, 0, 3)]
        self.assertEqual(roads_from(0, 5, steps), {0: [], 1: steps[3:], 2: steps[:1:-1], 3: steps[:0:-1], 4: steps[::-1]})

    def test_tight_steps(self):
        steps = [(0, 1, -2, 0), (0, 2, -5, 0), (2, 1, 3, 1), (2, 0, 4, 1), (2, 0, 5, None), (1, 0, 3, 2)]
        self.assertEqual(tight_steps(steps, [5, 3]), [steps[0], steps[1], steps[2], steps[4]])

    def test_finer_prices(self):
        # A round of 0 and 1, and a step to 2, which is nothing: it is led to by all three.
        roads = all_roads(3, [(0, 1, 0, 0), (1, 0, 0, 1), (0, 2, 0, 2)])
        self.assertEqual(strict_prices([5, 7], roads), [14, 20])
        self.assertEqual(strict_prices([5, 7], all_roads(3, [(2, 0, 0, 2), (0, 1, 0, 0)])), [16, 23])
        self.assertEqual(strict_prices([5, 7], all_roads(3, [])), [15, 21])


class Papers(unittest.TestCase):
    def test_tight_just_at_what_is_in_a_best_dealing(self):
        for wishes in some_wishes(40):
            for aim in some_aims(wishes)[::3]:
                dealing, (times, asks, prices) = best_dealing(wishes, aim)
                worths = all_worths(wishes, aim)
                steps = tight_steps(all_steps(wishes, worths, dealing), prices)
                roads = all_roads(len(prices) + 1, steps)
                paper = strict_paper(len(dealing), worths, prices, roads)
                self.assertIs(lets_paper(wishes, aim, paper), True)
                best = best_ones(wishes, aim)
                dealt = {(asker, got) for one in best for asker, got in enumerate(one) if got is not None}
                self.assertEqual(tight_by_words(wishes, aim, paper), sorted(dealt))
                shown = shown_by_rounds(dealing, steps, roads)
                self.assertEqual(shown[0], dealing)
                self.assertIsNot(shown[0], dealing)
                self.assertTrue(all(one in best for one in shown))
                self.assertEqual(len({tuple(one) for one in shown}), len(shown))

    def test_a_copy_that_is_left_needs_no_showing(self):
        # Two things, nothing is 2: the asker may go from 0 to 1, of which a copy is left.
        steps = [(0, 1, 0, 0), (1, 2, 0, None), (2, 0, 0, None)]
        self.assertEqual(shown_by_rounds([0], steps, all_roads(3, steps)), [[0], [1]])
        self.assertEqual(shown_by_rounds([0], steps[:1], all_roads(3, steps)), [[0], [1]])
        self.assertEqual(shown_by_rounds([0], steps[1:2], all_roads(3, steps)), [[0]])
        self.assertEqual(shown_by_rounds([0], steps[2:], all_roads(3, steps)), [[0], [1]])

    def test_few_dealings_show_very_many(self):
        for wishes in great_wishes()[:2]:
            dealing, (times, asks, prices) = best_dealing(wishes, ("full", None, []))
            worths = all_worths(wishes, ("full", None, []))
            steps = tight_steps(all_steps(wishes, worths, dealing), prices)
            self.assertLess(len(shown_by_rounds(dealing, steps, all_roads(7, steps))), 60)


if __name__ == "__main__":
    unittest.main()
