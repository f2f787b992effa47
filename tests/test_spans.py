"""Point 7 and the interface of slotwright/spans.py."""

import itertools
import random
import unittest

from slotwright.spans import COMMON, HEAVY, LAST, ROUNDS, apart, common, meet, together

THIRTY = 10 ** 30 + 57
FORTY = 10 ** 40 + 121


def plain_overlap(start, long, other_start, other_long):
    """Whether some moment lies in both, moment by moment."""
    return bool(set(range(start, start + long)) & set(range(other_start, other_start + other_long)))


def plain_earlinesses(one, two, i, k, slack):
    """All earlinesses at which going i of the one and going k of the two lie on the line at once."""
    start = one[0] + i * one[1]
    other_start = two[0] + k * two[1]
    return [(early, other) for early in range(slack + 1) for other in range(slack + 1)
            if plain_overlap(start - early, one[2], other_start - other, two[2])]


def near_goings(one, two, i, slack):
    """In rising order all goings of the two that may be near going i of the one, and some more on both sides."""
    middle = (one[0] + i * one[1] - two[0]) // two[1]
    reach = (one[2] + two[2] + 2 * slack) // two[1] + 2
    return range(middle - reach, middle + reach + 1)


def plain_meet(one, two, slack):
    """The first goings that can meet and all their earlinesses, or None, by going through them."""
    for i in range(2 * two[1] + 1):
        for k in near_goings(one, two, i, slack):
            found = plain_earlinesses(one, two, i, k, slack)
            if found:
                return i, k, found
    return None


class Constants(unittest.TestCase):
    def test_they_are_as_told(self):
        self.assertEqual(ROUNDS, (4, 5, 6, 8, 10, 12, 15, 20, 24, 30, 40, 60, 120))
        self.assertEqual((COMMON, LAST, HEAVY), (120, 480, 400))

    def test_every_round_goes_into_the_common_one(self):
        self.assertEqual(together(list(ROUNDS)), COMMON)


class Parts(unittest.TestCase):
    def test_common_held_against_trying(self):
        for p in range(1, 41):
            for q in range(1, 41):
                wanted = max(part for part in range(1, 41) if p % part == 0 and q % part == 0)
                self.assertEqual(common(p, q), wanted)

    def test_common_of_large_numbers_both_ways_round(self):
        for part in (1, 6, THIRTY, FORTY):
            # Neighbours have no common part, so the told one is the greatest.
            p, q = part * THIRTY, part * (THIRTY + 1)
            self.assertEqual(common(p, q), part)
            self.assertEqual(common(q, p), part)
        self.assertEqual(common(1, FORTY), 1)
        self.assertEqual(common(FORTY, 1), 1)
        self.assertEqual(common(FORTY, FORTY), FORTY)
        self.assertEqual(common(FORTY * THIRTY, THIRTY), THIRTY)

    def test_common_of_numbers_that_take_the_most_steps(self):
        low, high = 1, 1
        for step in range(1000):
            low, high = high, low + high
        self.assertEqual(common(low, high), 1)
        self.assertEqual(common(high * 7, low * 7), 7)

    def test_together_held_against_trying(self):
        for rounds in itertools.product(range(1, 10), repeat=3):
            wanted = next(n for n in range(1, 730) if all(n % every == 0 for every in rounds))
            self.assertEqual(together(list(rounds)), wanted)

    def test_together_of_none_and_of_one(self):
        self.assertEqual(together([]), 1)
        self.assertEqual(together([1]), 1)
        self.assertEqual(together([FORTY]), FORTY)

    def test_together_of_large_numbers_both_ways_round(self):
        self.assertEqual(together([THIRTY, THIRTY + 1]), THIRTY * (THIRTY + 1))
        self.assertEqual(together([THIRTY + 1, THIRTY]), THIRTY * (THIRTY + 1))
        self.assertEqual(together([6 * FORTY, 4 * FORTY, FORTY]), 12 * FORTY)
        self.assertEqual(together([FORTY, 4 * FORTY, 6 * FORTY]), 12 * FORTY)

    def test_together_does_not_change_its_list(self):
        rounds = [12, 8, 8, THIRTY]
        together(rounds)
        self.assertEqual(rounds, [12, 8, 8, THIRTY])


class Apart(unittest.TestCase):
    def test_edges_without_slack(self):
        one = (0, 12, 2)
        told = [apart(one, (start, 8, 1)) for start in range(4)]
        self.assertEqual(told, [False, False, True, True])
        told = [apart(one, (start, 8, 2)) for start in range(4)]
        self.assertEqual(told, [False, False, True, False])

    def test_edges_with_slack(self):
        told = [apart((0, 10, 2), (start, 20, 3), slack=2) for start in range(10)]
        self.assertEqual(told, [False] * 4 + [True] * 2 + [False] * 4)

    def test_slack_is_nought_where_none_is_told(self):
        for start in range(-10, 10):
            one, two = (0, 10, 4), (start, 10, 4)
            self.assertEqual(apart(one, two), apart(one, two, slack=0))
            self.assertEqual(meet(one, two), meet(one, two, slack=0))

    def test_starts_far_apart(self):
        for far in (-THIRTY * 10, THIRTY * 10):
            self.assertTrue(apart((far, 10, 4), (far + 5, 10, 4)))
            self.assertTrue(apart((5, 10, 4), (far, 10, 4)))
            self.assertFalse(apart((3, 10, 4), (far, 10, 4)))

    def test_true_and_false_are_told(self):
        self.assertIs(apart((0, 4, 1), (1, 4, 1)), True)
        self.assertIs(apart((0, 4, 1), (0, 4, 1)), False)


class Meet(unittest.TestCase):
    def check(self, one, two, slack):
        told = meet(one, two, slack=slack)
        wanted = plain_meet(one, two, slack)
        self.assertEqual(told is None, wanted is None, (one, two, slack))
        self.assertEqual(apart(one, two, slack=slack), wanted is None, (one, two, slack))
        if wanted is not None:
            i, k, early, other = told
            self.assertEqual((i, k), wanted[:2], (one, two, slack))
            self.assertIn((early, other), wanted[2], (one, two, slack))

    def test_small_rounds_held_against_going_through(self):
        for every, other_every in itertools.product((1, 2, 3, 4, 6), repeat=2):
            for long, other_long, slack in itertools.product((1, 2, 4), (1, 3), (0, 1, 2)):
                for start in (-7, 0, 1, 2, 5):
                    self.check((0, every, long), (start, other_every, other_long), slack)

    def test_rounds_that_are_alike_go_into_each_other_or_have_little_in_common(self):
        dice = random.Random(7)
        rounds = ((12, 12), (120, 120), (5, 40), (40, 5), (8, 120), (24, 15), (15, 24), (7, 11), (119, 120))
        for every, other_every in rounds:
            for turn in range(12):
                one = (dice.randrange(-300, 300), every, dice.randrange(1, 6))
                two = (dice.randrange(-300, 300), other_every, dice.randrange(1, 6))
                self.check(one, two, dice.randrange(0, 4))

    def test_lengths_as_long_as_a_round_and_longer(self):
        for long, other_long, slack in itertools.product((1, 5, 6, 13), (1, 4, 9), (0, 3)):
            for start in (-5, 0, 3):
                self.check((0, 6, long), (start, 4, other_long), slack)

    def test_a_long_one_meets_goings_below_nought_first(self):
        self.assertEqual(meet((0, 4, 1), (0, 4, 9))[:2], (0, -2))
        self.assertEqual(meet((0, 4, 1), (0, 4, 8))[:2], (0, -1))
        self.assertEqual(meet((-100, 60, 2), (0, 4, 1))[:2], (0, -25))

    def test_starts_far_apart_held_against_going_through(self):
        for far in (-THIRTY, THIRTY, FORTY, -FORTY):
            for shift in range(-3, 12):
                self.check((far, 10, 2), (shift, 15, 2), 0)
                self.check((shift, 10, 2), (far, 15, 1), 1)
                self.check((far, 24, 3), (-far + shift, 40, 2), 2)

    def test_none_where_they_are_apart(self):
        self.assertIsNone(meet((0, 12, 2), (2, 8, 1)))
        self.assertIsNone(meet((0, 12, 2), (2, 8, 2)))
        self.assertIsNone(meet((0, 10, 2), (4, 20, 3), slack=2))

    def test_they_meet_but_late(self):
        # Goings 0, 10, 20 against .., 8, 23, 38, ..: the third is the first with one within its four moments.
        self.assertEqual(meet((0, 10, 4), (23, 15, 1)), (2, 0, 0, 0))
        self.assertEqual(meet((0, 10, 4), (38, 15, 1)), (2, -1, 0, 0))
        self.assertEqual(meet((0, 10, 4), (8, 15, 1)), (2, 1, 0, 0))

    def test_earlinesses_are_needed_where_the_goings_do_not_meet_in_time(self):
        # These are the only earlinesses at which they meet.
        self.assertEqual(meet((0, 120, 2), (4, 120, 2), slack=3), (0, 0, 0, 3))
        self.assertEqual(meet((4, 120, 2), (0, 120, 2), slack=3), (0, 0, 3, 0))


if __name__ == "__main__":
    unittest.main()
