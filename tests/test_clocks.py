"""Points 16 and 17, points 1 and 2 where they speak of clocks, and the interface of slotwright/clocks.py."""

import itertools
import random
import unittest

from samples import parameters, refused
from slotwright.clocks import Clocks, middle, parted, slack_of, wider
from slotwright.errors import BadNumber, NoStep, TooFew


def plain_middle(numbers):
    """The middle by leaving out one number after the other."""
    left = list(numbers)
    left.remove(max(left))
    left.remove(min(left))
    whole = min(left) + max(left)
    return (whole - whole % 2) // 2


def rows_for(stands, err, chance, silent=None, word=None):
    """What each clock hears: words of good ones within their bounds, and of one other the told word."""
    return [[word(chance) if at == silent else stand + chance.randint(0, err) for at, stand in enumerate(stands)]
            for row in stands]


def wild(chance):
    """A word of a fallen one."""
    return chance.choice((None, 0, -10 ** 30, 10 ** 30, chance.randint(-50, 50)))


class Interface(unittest.TestCase):
    def test_arguments_and_defaults(self):
        self.assertEqual(parameters(middle), "(numbers)")
        self.assertEqual(parameters(slack_of), "(err, gain)")
        self.assertEqual(parameters(Clocks), "(stands, *, err=0, gain=0)")
        self.assertEqual(parameters(Clocks.turn), "(heard, gains)")
        self.assertEqual(parameters(Clocks.fall), "(at)")
        self.assertEqual(parameters(Clocks.rise), "(at)")
        self.assertEqual(parameters(Clocks.told), "()")
        self.assertEqual(parameters(Clocks.width), "()")
        self.assertEqual(parameters(wider), "(err, gain)")
        self.assertEqual(parameters(parted), "(turns, *, err=0, gain=1)")

    def test_by_names(self):
        clocks = Clocks(gain=1, err=2, stands=[0, 1, 2, 3])
        clocks.turn(gains=[0, 0, 0, 1], heard=[[0, 1, 2, 3]] * 4)
        clocks.fall(at=0)
        clocks.rise(at=0)
        self.assertEqual(clocks.told(), [None, 1, 1, 2])
        self.assertEqual(slack_of(gain=1, err=2), 6)
        self.assertEqual(middle(numbers=[1, 2, 3]), 2)
        self.assertEqual(parted(gain=1, err=0, turns=0), [])
        self.assertIsNone(wider(gain=0, err=0))


class Middle(unittest.TestCase):
    def test_worked_out_by_hand(self):
        for numbers, wanted in (([1, 2, 3], 2), ([3, 1, 2], 2), ([5, 5, 5], 5), ([0, 0, 9], 0), ([9, 0, 9], 9),
                                ([1, 2, 3, 4], 2), ([4, 1, 9, 2], 3), ([0, 0, 1, 9], 0), ([7, 7, 7, 7], 7),
                                ([1, 2, 3, 4, 5], 3), ([1, 2, 9, 40, 50], 21), ([1, 1, 1, 8, 8, 8, 8], 4),
                                ([10, 20, 30, 40, 50, 60, 71], 40)):
            self.assertEqual(middle(numbers), wanted)

    def test_rounded_down_below_nought(self):
        for numbers, wanted in (([-3, -2, -1], -2), ([-9, -2, -1, 0], -2), ([-9, -1, 0, 9], -1), ([-9, -4, -1, 9], -3),
                                ([-9, -4, 1, 9], -2), ([-9, -1, 2, 9], 0), ([-5, -5, -4, -4], -5)):
            self.assertEqual(middle(numbers), wanted)

    def test_thirty_figures(self):
        big = 10 ** 29 + 7
        self.assertEqual(middle([big, big + 1, big + 2]), big + 1)
        self.assertEqual(middle([-big, big, big + 4, 3 * big]), big + 2)
        self.assertEqual(middle([-3 * big, -big, -big - 1, big]), -big - 1)
        self.assertEqual(middle([0, 1, big * 10 ** 200]), 1)

    def test_too_few(self):
        for numbers in ([], [1], [1, 2], [True], [10 ** 30, -10 ** 30]):
            refused(self, TooFew, lambda: middle(numbers))

    def test_no_numbers(self):
        for numbers in ([True, 1, 2], [1, 2, False], [0, True, False, 5]):
            refused(self, BadNumber, lambda: middle(numbers))

    def test_held_against_leaving_out(self):
        chance = random.Random(2)
        for turn in range(500):
            numbers = [chance.randint(-20, 20) for row in range(chance.randint(3, 9))]
            before = list(numbers)
            self.assertEqual(middle(numbers), plain_middle(numbers))
            self.assertEqual(numbers, before)

    def test_slack(self):
        for err, gain, wanted in ((0, 0, 0), (1, 0, 2), (0, 1, 2), (3, 4, 14), (1000, 1000, 4000), (2000, 5, 4010)):
            self.assertEqual(slack_of(err, gain), wanted)
        for err, gain in ((True, 0), (0, False)):
            refused(self, BadNumber, lambda: slack_of(err, gain))


class Making(unittest.TestCase):
    def test_four_to_seven(self):
        for many in range(4, 8):
            clocks = Clocks([5] * many)
            self.assertEqual(clocks.told(), [5] * many)
            self.assertEqual(clocks.width(), 0)

    def test_too_few_goes_first(self):
        for many in range(4):
            refused(self, TooFew, lambda: Clocks([5] * many))
            refused(self, TooFew, lambda: Clocks([True, 10 ** 9, -4][:many], err=-1, gain=True))

    def test_too_many(self):
        for many in (8, 9, 20):
            refused(self, BadNumber, lambda: Clocks([5] * many))

    def test_err_and_gain_at_their_bounds(self):
        for number in (0, 1, 999, 1000):
            self.assertEqual(Clocks([0, 2 * number, 0, 0], err=number).width(), 2 * number)
            self.assertEqual(Clocks([0, 2 * number, 0, 0], gain=number).width(), 2 * number)
        for number in (-1, 1001, True, False, 10 ** 30, -10 ** 30):
            refused(self, BadNumber, lambda: Clocks([0] * 4, err=number))
            refused(self, BadNumber, lambda: Clocks([0] * 4, gain=number))
            # Also where the other one makes the slack wide enough.
            refused(self, BadNumber, lambda: Clocks([0] * 4, err=number, gain=5))
            refused(self, BadNumber, lambda: Clocks([0] * 4, err=5, gain=number))

    def test_stands_that_are_no_numbers(self):
        for stand in (True, False):
            for at in range(5):
                stands = [0, 1, 0, 1, 0]
                stands[at] = stand
                refused(self, BadNumber, lambda: Clocks(stands, err=1))

    def test_stands_at_the_slack_and_one_above(self):
        for err, gain in itertools.product((0, 1, 5), (0, 2, 1000)):
            slack = 2 * err + 2 * gain
            for low in (0, -7, 10 ** 30, -10 ** 30):
                for many in range(4, 8):
                    stands = [low] * (many - 1)
                    clocks = Clocks(stands + [low + slack], err=err, gain=gain)
                    self.assertEqual(clocks.told(), stands + [low + slack])
                    self.assertEqual(clocks.width(), slack)
                    refused(self, BadNumber, lambda: Clocks(stands + [low + slack + 1], err=err, gain=gain))
                    refused(self, BadNumber, lambda: Clocks([low + slack + 1] + stands, err=err, gain=gain))

    def test_the_list_may_be_changed(self):
        stands = [1, 2, 3, 4]
        clocks = Clocks(stands, err=2)
        stands[0] = 99
        stands.pop()
        self.assertEqual(clocks.told(), [1, 2, 3, 4])
        told = clocks.told()
        told[1] = 50
        told.clear()
        self.assertEqual(clocks.told(), [1, 2, 3, 4])
        self.assertEqual(clocks.width(), 3)


class Turns(unittest.TestCase):
    def test_worked_out_by_hand(self):
        clocks = Clocks([0, 3, 5, 6], err=2, gain=1)
        heard = [[0, 3, 5, 6], [2, 5, 7, 8], [1, 3, 7, 6], [0, 5, 5, 6]]
        self.assertIsNone(clocks.turn(heard, [0, 1, 0, 1]))
        # The middles: of 3 and 5, of 5 and 7, of 3 and 6, of 5 and 5.
        self.assertEqual(clocks.told(), [4, 7, 4, 6])
        self.assertEqual(clocks.width(), 3)

    def test_what_is_handed_in_may_be_changed(self):
        clocks = Clocks([0, 3, 5, 6], err=2, gain=1)
        heard, gains = [[0, 3, 5, 6] for row in range(4)], [0, 0, 0, 1]
        clocks.turn(heard, gains)
        self.assertEqual((heard, gains), ([[0, 3, 5, 6] for row in range(4)], [0, 0, 0, 1]))
        heard[0][0] = 77
        gains.clear()
        self.assertEqual(clocks.told(), [4, 4, 4, 5])

    def test_held_against_a_plain_reckoning(self):
        chance = random.Random(4)
        for run in range(60):
            err, gain = chance.randint(0, 4), chance.randint(0, 4)
            slack = slack_of(err, gain)
            stands = [chance.randint(0, slack) for row in range(chance.randint(4, 7))]
            clocks = Clocks(stands, err=err, gain=gain)
            for turn in range(8):
                heard = rows_for(stands, err, chance)
                gains = [chance.randint(0, gain) for row in stands]
                clocks.turn(heard, gains)
                stands = [plain_middle(row) + more for row, more in zip(heard, gains)]
                self.assertEqual(clocks.told(), stands)
                self.assertEqual(clocks.width(), max(stands) - min(stands))
                self.assertLessEqual(clocks.width(), slack)

    def test_words_at_their_bounds(self):
        for many in range(4, 8):
            clocks = Clocks(list(range(many)), err=3, gain=2)
            clocks.turn([[at + 3 for at in range(many)]] * many, [2] * many)
            self.assertEqual(clocks.told(), [middle(list(range(many))) + 5] * many)

    def wrong(self, clocks, heard, gains):
        """The turn is refused, and everything is as it was: a right turn goes on from there."""
        told = clocks.told()
        refused(self, BadNumber, lambda: clocks.turn(heard, gains))
        self.assertEqual(clocks.told(), told)

    def test_each_wrong_word_of_a_good_one(self):
        for many in (4, 7):
            right = [0, 1, 2, 3, 4, 4, 4][:many]
            for row, at in itertools.product(range(many), repeat=2):
                for word in (right[at] - 1, right[at] + 3, None, True, False, 10 ** 30, -10 ** 30):
                    clocks = Clocks(right, err=2, gain=1)
                    heard = [list(right) for place in right]
                    heard[row][at] = word
                    self.wrong(clocks, heard, [0] * many)
                    clocks.turn([list(right)] * many, [1] * many)
                    self.assertEqual(clocks.told(), [middle(right) + 1] * many)

    def test_each_wrong_gain(self):
        clocks = Clocks([0, 1, 2, 3], err=2, gain=1)
        for at in range(4):
            for gain in (-1, 2, True, False, 10 ** 30):
                gains = [0] * 4
                gains[at] = gain
                self.wrong(clocks, [[0, 1, 2, 3]] * 4, gains)

    def test_other_lengths(self):
        clocks = Clocks([0, 1, 2, 3], err=2, gain=1)
        row = [0, 1, 2, 3]
        for heard in ([], [row] * 3, [row] * 5, [row, row, row, row[:3]], [row, row + [3], row, row], [row, row, [], row]):
            self.wrong(clocks, heard, [0] * 4)
        for gains in ([], [0] * 3, [0] * 5):
            self.wrong(clocks, [row] * 4, gains)
        clocks.fall(1)
        for heard in ([row] * 3, [row] * 5, [row, row, row, row[:3]]):
            self.wrong(clocks, heard, [0] * 4)
        self.wrong(clocks, [row] * 4, [0] * 3)
        self.assertEqual(clocks.told(), [0, None, 2, 3])

    def test_a_wrong_last_row_leaves_the_first_ones(self):
        clocks = Clocks([0, 4, 6, 6], err=2, gain=1)
        self.wrong(clocks, [[2, 6, 8, 8], [2, 6, 8, 8], [2, 6, 8, 8], [2, 6, 8, 9]], [1, 1, 1, 1])
        self.wrong(clocks, [[2, 6, 8, 8]] * 4, [1, 1, 1, 2])
        self.assertEqual(clocks.width(), 6)


class FallsAndRises(unittest.TestCase):
    def test_a_fall_a_rise_and_a_turn_of_listening(self):
        clocks = Clocks([0, 3, 5, 6], err=2, gain=1)
        clocks.fall(3)
        self.assertEqual(clocks.told(), [0, 3, 5, None])
        self.assertEqual(clocks.width(), 5)
        # Of the fallen one each hears something else; its own row and gain are not looked at.
        clocks.turn([[0, 3, 5, -90], [2, 5, 7, 10 ** 30], [1, 3, 6, None], ["nothing"]], [0, 1, 0, -5])
        # The middles: of 0 and 3, of 5 and 7, and 3 of the three words 1, 3 and 6.
        self.assertEqual(clocks.told(), [1, 7, 3, None])
        clocks.rise(3)
        self.assertEqual(clocks.told(), [1, 7, 3, None])
        self.assertEqual(clocks.width(), 6)
        clocks.turn([[1, 7, 3, None], [3, 9, 5, None], [1, 8, 4, None], [2, 7, 5, None]], [0, 0, 1, 1])
        self.assertEqual(clocks.told(), [3, 5, 5, 6])
        self.assertEqual(clocks.width(), 3)
        clocks.turn([[3, 5, 5, 8]] * 4, [0] * 4)
        self.assertEqual(clocks.told(), [5] * 4)

    def test_places_that_are_none(self):
        for many in (4, 7):
            clocks = Clocks([0] * many)
            for at in (-1, many, many + 1, True, False, 10 ** 30, -10 ** 30):
                refused(self, BadNumber, lambda: clocks.fall(at))
                refused(self, BadNumber, lambda: clocks.rise(at))
            clocks.fall(many - 1)
            # Ahead of TooFew and NoStep.
            for at in (-1, many, True, False):
                refused(self, BadNumber, lambda: clocks.fall(at))
                refused(self, BadNumber, lambda: clocks.rise(at))
            self.assertEqual(clocks.told(), [0] * (many - 1) + [None])

    def test_a_fall_while_one_is_not_good(self):
        clocks = Clocks([0] * 5)
        clocks.fall(2)
        for at in range(5):
            refused(self, TooFew, lambda: clocks.fall(at))
        clocks.rise(2)
        for at in range(5):
            refused(self, TooFew, lambda: clocks.fall(at))
        self.assertEqual(clocks.told(), [0, 0, None, 0, 0])
        clocks.turn([[0, 0, None, 0, 0]] * 5, [0] * 5)
        clocks.fall(4)
        self.assertEqual(clocks.told(), [0, 0, 0, 0, None])

    def test_a_rise_of_what_is_not_fallen(self):
        clocks = Clocks([0] * 4)
        for at in range(4):
            refused(self, NoStep, lambda: clocks.rise(at))
        clocks.fall(0)
        for at in range(1, 4):
            refused(self, NoStep, lambda: clocks.rise(at))
        clocks.rise(0)
        # It listens: it is no longer fallen.
        for at in range(4):
            refused(self, NoStep, lambda: clocks.rise(at))
        clocks.turn([[None, 0, 0, 0]] * 4, [0] * 4)
        refused(self, NoStep, lambda: clocks.rise(0))
        self.assertEqual(clocks.told(), [0] * 4)

    def test_wrong_turns_while_one_has_fallen(self):
        clocks = Clocks([0, 1, 2, 3], err=2, gain=1)
        clocks.fall(1)
        right = [0, 99, 2, 3]
        for row in (0, 2, 3):
            for at, word in ((0, 3), (2, None), (3, 6), (2, True), (1, True), (1, False)):
                heard = [list(right) for place in range(4)]
                heard[row][at] = word
                refused(self, BadNumber, lambda: clocks.turn(heard, [0] * 4))
            gains = [0] * 4
            gains[row] = 2
            refused(self, BadNumber, lambda: clocks.turn([right] * 4, gains))
        self.assertEqual(clocks.told(), [0, None, 2, 3])
        # The row of the fallen one and its gain are not looked at, whatever stands there.
        for row, gain in (([], True), ([0] * 9, -1), ([True, None, -5, 10 ** 9], 10 ** 9)):
            other = Clocks([0, 1, 2, 3], err=2, gain=1)
            other.fall(1)
            other.turn([right, row, right, right], [0, gain, 0, 0])
            self.assertEqual(other.told(), [2, None, 2, 2])

    def test_wrong_turns_while_one_listens(self):
        right = [0, None, 2, 3]
        clocks = Clocks([0, 1, 2, 3], err=2, gain=1)
        clocks.fall(1)
        clocks.rise(1)
        for row in range(4):
            # A word of the listening one to whomever, itself too, and words of good ones as ever.
            for at, word in ((1, 1), (1, 0), (1, True), (1, False), (0, 3), (2, None), (3, 2)):
                heard = [list(right) for place in range(4)]
                heard[row][at] = word
                refused(self, BadNumber, lambda: clocks.turn(heard, [0] * 4))
            gains = [0] * 4
            gains[row] = 2
            refused(self, BadNumber, lambda: clocks.turn([right] * 4, gains))
            heard = [list(right) for place in range(4)]
            heard[row] = right[:3]
            refused(self, BadNumber, lambda: clocks.turn(heard, [0] * 4))
        # It still listens.
        self.assertEqual(clocks.told(), right)
        refused(self, TooFew, lambda: clocks.fall(0))
        clocks.turn([right] * 4, [0, 1, 0, 0])
        self.assertEqual(clocks.told(), [2, 3, 2, 2])

    def test_the_good_ones_never_stand_further_apart(self):
        chance = random.Random(6)
        for run in range(80):
            err, gain = chance.randint(0, 3), chance.randint(0, 3)
            slack = slack_of(err, gain)
            clocks = Clocks([chance.randint(0, slack) for row in range(chance.randint(4, 7))], err=err, gain=gain)
            fallen, listening = None, None
            for turn in range(20):
                if fallen is None and chance.random() < 0.4:
                    fallen = chance.randrange(len(clocks.told()))
                    clocks.fall(fallen)
                elif fallen is not None and chance.random() < 0.3:
                    listening, fallen = fallen, None
                    clocks.rise(listening)
                stands = clocks.told()
                silent = fallen if fallen is not None else listening
                word = (lambda row: None) if fallen is None else wild
                heard = rows_for([0 if stand is None else stand for stand in stands], err, chance, silent, word)
                gains = [chance.choice((0, gain)) for row in stands]
                clocks.turn(heard, gains)
                wanted = [None if at == fallen else plain_middle([number for number in row if number is not None]) + more
                          for at, (row, more) in enumerate(zip(heard, gains))]
                self.assertEqual(clocks.told(), wanted)
                self.assertLessEqual(clocks.width(), slack)
                listening = None


class Wider(unittest.TestCase):
    def test_none_where_the_slack_is_nought(self):
        self.assertIsNone(wider(0, 0))

    def test_as_wide_as_the_slack(self):
        for err, gain in itertools.product((0, 1, 2, 3, 7, 1000), repeat=2):
            if err + gain == 0:
                continue
            told = wider(err, gain)
            self.assertIsInstance(told, tuple)
            stands, heard, gains = told
            slack = 2 * err + 2 * gain
            self.assertEqual((len(stands), len(heard), len(gains)), (4, 4, 4))
            self.assertTrue(all(isinstance(row, list) for row in [stands, heard, gains] + heard))
            self.assertEqual([len(row) for row in heard], [4] * 4)
            self.assertEqual(stands[3], 0)
            self.assertEqual(max(stands[:3]) - min(stands[:3]), slack - 1)
            clocks = Clocks(stands, err=err, gain=gain)
            clocks.fall(3)
            clocks.turn(heard, gains)
            self.assertEqual(clocks.width(), slack)
            # By a plain reckoning, too.
            for row, more in zip(heard[:3], gains):
                self.assertTrue(0 <= more <= gain)
                self.assertTrue(all(0 <= word - stand <= err for word, stand in zip(row[:3], stands)))
            behind = [plain_middle([word for word in row if word is not None]) + more
                      for row, more in zip(heard[:3], gains)]
            self.assertEqual(max(behind) - min(behind), slack)

    def test_made_afresh(self):
        stands, heard, gains = wider(1, 2)
        for row in heard:
            row.append(5)
        heard.clear()
        stands.clear()
        gains.clear()
        self.assertEqual([len(row) for row in wider(1, 2)[1]], [4] * 4)
        told = wider(1, 2)
        told[1][0][0] = 77
        self.assertNotEqual(told[1][1][0], 77)

    def test_no_numbers(self):
        for err, gain in ((True, 1), (1, False), (False, False)):
            refused(self, BadNumber, lambda: wider(err, gain))


class Parted(unittest.TestCase):
    def look_over(self, turns, err, gain, rows):
        """The two good clocks go further apart at each turn, by words and gains as point 16 has them."""
        self.assertIsInstance(rows, list)
        self.assertEqual(len(rows), turns)
        one, two = 0, 0
        for row in rows:
            self.assertIsInstance(row, tuple)
            behind = []
            for heard, more in row:
                self.assertIsInstance(heard, list)
                self.assertEqual(len(heard), 3)
                self.assertTrue(0 <= heard[0] - one <= err)
                self.assertTrue(0 <= heard[1] - two <= err)
                self.assertTrue(0 <= more <= gain)
                behind.append(plain_middle([word for word in heard if word is not None]) + more)
            one, two = behind
        self.assertEqual(two - one, turns * (err + gain))

    def test_they_part(self):
        for turns, err, gain in itertools.product((0, 1, 2, 5, 50), (0, 1, 3, 1000), (0, 1, 2, 1000)):
            self.look_over(turns, err, gain, parted(turns, err=err, gain=gain))

    def test_what_is_left_out(self):
        self.look_over(7, 0, 1, parted(7))
        self.look_over(7, 2, 1, parted(7, err=2))
        self.look_over(7, 0, 3, parted(7, gain=3))

    def test_made_afresh(self):
        rows = parted(2)
        rows[0][0][0].clear()
        rows.clear()
        self.look_over(2, 0, 1, parted(2))

    def test_no_numbers(self):
        refused(self, BadNumber, lambda: parted(True))
        refused(self, BadNumber, lambda: parted(2, err=True))
        refused(self, BadNumber, lambda: parted(2, gain=False))


if __name__ == "__main__":
    unittest.main()
