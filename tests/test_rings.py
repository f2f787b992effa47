"""Point 11's least starts and rings, and the interface of slotwright/rings.py."""

import random
import signal
import unittest

from slotwright.rings import closes, least, ring

BIG = 10 ** 29 + 57
MORE = 7 * 10 ** 29 + 3


def plain_ring(wants):
    """Whether the list is a ring, by walking along it."""
    if not isinstance(wants, list) or not wants:
        return False
    at = wants[0][0]
    for i, j, number in wants:
        if i != at:
            return False
        at = j
    return at == wants[0][0] and sum(number for i, j, number in wants) > 0


def plain_least(count, wants):
    """The least numbers by the greatest sums over all ways between all numbers, or None."""
    sums = [[0 if i == j else None for j in range(count)] for i in range(count)]
    for i, j, number in wants:
        if sums[i][j] is None or sums[i][j] < number:
            sums[i][j] = number
    for k in range(count):
        for i in range(count):
            for j in range(count):
                if sums[i][k] is not None and sums[k][j] is not None:
                    if sums[i][j] is None or sums[i][j] < sums[i][k] + sums[k][j]:
                        sums[i][j] = sums[i][k] + sums[k][j]
        if any(sums[i][i] > 0 for i in range(count)):
            return None
    return [max(row[j] for row in sums if row[j] is not None) for j in range(count)]


def too_long(number, frame):
    raise AssertionError("it took far too long")


class Rings(unittest.TestCase):
    def setUp(self):
        # Numbers that are counted up one by one would never come to an end.
        self.before = signal.signal(signal.SIGALRM, too_long)
        signal.alarm(60)

    def tearDown(self):
        signal.alarm(0)
        signal.signal(signal.SIGALRM, self.before)

    def has(self, count, wants, numbers):
        """These are the least numbers, there is no ring, and the wants stay as they were."""
        before = list(wants)
        self.assertEqual(least(count, wants), numbers)
        self.assertIsNone(ring(count, wants))
        self.assertEqual(wants, before)

    def has_none(self, count, wants):
        """There are no numbers, and a ring of the wants themselves is told."""
        before = list(wants)
        self.assertIsNone(least(count, wants))
        found = ring(count, wants)
        self.assertTrue(plain_ring(found), found)
        self.assertLessEqual(set(found), set(wants))
        self.assertTrue(closes(found))
        self.assertEqual(wants, before)
        return found


class Least(Rings):
    def test_no_wants(self):
        self.has(1, [], [0])
        self.has(4, [], [0, 0, 0, 0])

    def test_worked_out_by_hand(self):
        self.has(2, [(0, 1, 5)], [0, 5])
        self.has(2, [(0, 1, 5), (1, 0, -5)], [0, 5])
        self.has(2, [(0, 1, 5), (1, 0, -9)], [0, 5])
        self.has(2, [(0, 1, -5)], [0, 0])
        self.has(4, [(0, 1, 4), (1, 2, 6), (0, 2, 3), (2, 0, -27), (3, 1, 7), (0, 3, 2)], [0, 9, 15, 2])

    def test_number_nought_too_is_raised(self):
        self.has(2, [(1, 0, 5)], [5, 0])
        self.has(3, [(1, 0, 5), (0, 2, 4), (2, 1, -9)], [5, 0, 9])
        self.has(3, [(2, 1, 3), (1, 0, 3)], [6, 3, 0])

    def test_numbers_that_go_down_on_the_way_are_held_at_nought(self):
        self.has(3, [(0, 1, -4), (1, 2, 6)], [0, 0, 6])

    def test_several_wants_between_the_same(self):
        self.has(2, [(0, 1, 3), (0, 1, 8), (0, 1, 5), (0, 1, 8)], [0, 8])

    def test_in_whatever_order(self):
        chain = [(k, k + 1, k) for k in range(60)]
        numbers = [k * (k - 1) // 2 for k in range(61)]
        self.has(61, chain, numbers)
        self.has(61, chain[::-1], numbers)
        mixed = list(chain)
        random.Random(2).shuffle(mixed)
        self.has(61, mixed, numbers)

    def test_thirty_figures(self):
        self.has(3, [(0, 1, BIG), (1, 2, MORE)], [0, BIG, BIG + MORE])
        self.has(3, [(0, 1, -BIG), (1, 2, MORE)], [0, 0, MORE])
        self.has(2, [(0, 1, BIG), (1, 0, -MORE)], [0, BIG])
        self.has(4, [(3, 2, BIG), (2, 1, BIG), (1, 0, BIG), (0, 3, -3 * BIG)], [3 * BIG, 2 * BIG, BIG, 0])

    def test_small_steps_up_to_a_large_number(self):
        self.has(3, [(0, 1, 1), (1, 0, -1), (2, 0, BIG)], [BIG, BIG + 1, 0])
        self.has(4, [(1, 2, 1), (2, 3, 1), (3, 1, -2), (0, 1, BIG), (3, 0, -BIG - 2)], [0, BIG, BIG + 1, BIG + 2])

    def test_made_afresh(self):
        wants = [(0, 1, 5)]
        least(2, wants).clear()
        self.assertEqual(least(2, wants), [0, 5])
        self.assertEqual(least(wants=wants, count=2), [0, 5])


class RingOf(Rings):
    def test_sums_of_just_nought_and_one_above(self):
        self.has(2, [(0, 1, 4), (1, 0, -4)], [0, 4])
        self.has_none(2, [(0, 1, 4), (1, 0, -3)])
        self.has(3, [(0, 1, 4), (1, 2, -9), (2, 0, 5)], [5, 9, 0])
        self.has_none(3, [(0, 1, 4), (1, 2, -9), (2, 0, 6)])

    def test_from_a_number_to_itself(self):
        self.has(1, [(0, 0, 0)], [0])
        self.has(1, [(0, 0, -1)], [0])
        self.has(3, [(1, 1, 0), (0, 1, 2), (2, 2, -BIG)], [0, 2, 0])
        self.assertEqual(set(self.has_none(1, [(0, 0, 1)])), {(0, 0, 1)})
        self.assertEqual(set(self.has_none(3, [(0, 1, 2), (2, 2, 1), (1, 2, 3)])), {(2, 2, 1)})
        self.assertEqual(set(self.has_none(2, [(1, 1, BIG)])), {(1, 1, BIG)})
        self.has_none(2, [(0, 1, 2), (1, 1, -3), (1, 0, -1)])

    def test_thirty_figures(self):
        self.has(2, [(0, 1, BIG), (1, 0, -BIG)], [0, BIG])
        self.has_none(2, [(0, 1, BIG), (1, 0, 1 - BIG)])
        self.has(3, [(0, 1, BIG), (1, 2, MORE), (2, 0, -BIG - MORE)], [0, BIG, BIG + MORE])
        self.has_none(3, [(0, 1, BIG), (1, 2, MORE), (2, 0, 1 - BIG - MORE)])
        self.has_none(3, [(0, 1, 1), (1, 0, 0), (0, 2, 0), (2, 0, -BIG)])

    def test_a_ring_that_gains_one_below_a_far_bound(self):
        # The bound itself makes no ring but the other two do, by one at a time.
        found = self.has_none(3, [(2, 0, -BIG), (0, 1, 3), (1, 0, -2), (0, 2, 0)])
        self.assertEqual(set(found), {(0, 1, 3), (1, 0, -2)})

    def test_a_ring_among_numbers_that_nothing_else_reaches(self):
        self.has_none(6, [(0, 1, 5), (4, 5, -7), (5, 3, 2), (3, 4, 6)])
        self.has_none(6, [(4, 5, -BIG), (5, 3, 2), (3, 4, BIG - 1)])
        self.has(6, [(4, 5, -BIG), (5, 3, 2), (3, 4, BIG - 2)], [0, 0, 0, 2, BIG, 0])

    def test_a_long_ring(self):
        count = 120
        wants = [(k, (k + 1) % count, (-1) ** k * BIG) for k in range(count)]
        random.Random(3).shuffle(wants)
        self.assertIsNotNone(least(count, wants))
        self.assertIsNone(ring(count, wants))
        i, j, number = wants[17]
        wants[17] = (i, j, number + 1)
        self.assertEqual(set(self.has_none(count, wants)), set(wants))

    def test_a_ring_beside_others_of_just_nought(self):
        even = [(0, 1, 3), (1, 0, -3), (1, 2, 4), (2, 1, -4), (2, 0, -7)]
        self.has(3, even, [0, 3, 7])
        self.has_none(3, even + [(2, 0, -6)])

    def test_held_against_all_sums(self):
        chance = random.Random(4)
        many = [0, 0]
        for turn in range(600):
            count = chance.randint(1, 6)
            reach = chance.choice((2, 9, BIG))
            wants = [(chance.randrange(count), chance.randrange(count), chance.randint(-reach, reach // 2))
                     for at in range(chance.randint(0, 9))]
            numbers = plain_least(count, wants)
            many[numbers is None] += 1
            if numbers is None:
                self.has_none(count, wants)
            else:
                self.has(count, wants, numbers)
        self.assertGreater(min(many), 100)

    def test_made_afresh(self):
        wants = [(0, 1, 4), (1, 0, -3)]
        ring(2, wants).clear()
        self.assertTrue(plain_ring(ring(wants=wants, count=2)))
        self.assertEqual(wants, [(0, 1, 4), (1, 0, -3)])


class Closes(Rings):
    def test_an_empty_list(self):
        self.assertIs(closes([]), False)

    def test_rings(self):
        for wants in ([(3, 3, 1)], [(0, 1, 4), (1, 0, -3)], [(1, 0, -3), (0, 1, 4)], [(5, 2, 0), (2, 9, 0), (9, 5, 1)],
                      [(0, 1, BIG), (1, 0, 1 - BIG)], [(0, 0, 2), (0, 0, -1)]):
            self.assertIs(closes(wants), True, wants)

    def test_a_ring_that_comes_by_a_number_twice(self):
        self.assertIs(closes([(0, 1, 4), (1, 0, -3), (0, 1, 4), (1, 0, -3)]), True)
        self.assertIs(closes([(0, 1, 4), (1, 0, -4), (0, 2, 3), (2, 0, -2)]), True)

    def test_sums_that_are_not_above_nought(self):
        for wants in ([(3, 3, 0)], [(3, 3, -1)], [(0, 1, 4), (1, 0, -4)], [(0, 1, 4), (1, 0, -5)],
                      [(0, 1, BIG), (1, 2, MORE), (2, 0, -BIG - MORE)]):
            self.assertIs(closes(wants), False, wants)

    def test_broken_rows(self):
        for wants in ([(0, 1, 4)], [(0, 1, 4), (1, 2, 4)], [(0, 1, 4), (2, 0, 4)], [(0, 1, 4), (2, 1, 4), (1, 0, 4)],
                      [(0, 1, 9), (0, 1, 9)], [(1, 0, 9), (0, 2, 9), (2, 3, 9)], [(0, 1, 1), (1, 2, 1), (0, 2, 1)],
                      [(0, 0, 1), (1, 1, 1)], [(0, 1, 5), (1, 0, 5), (2, 2, 5)], [(2, 2, 5), (0, 1, 5), (1, 0, 5)],
                      [(1, 2, 5), (0, 1, 5), (2, 0, 5)]):
            self.assertIs(closes(wants), False, wants)

    def test_the_list_stays_as_it_was(self):
        wants = [(0, 1, 4), (1, 0, -3)]
        self.assertIs(closes(wants=wants), True)
        self.assertEqual(wants, [(0, 1, 4), (1, 0, -3)])


if __name__ == "__main__":
    unittest.main()
