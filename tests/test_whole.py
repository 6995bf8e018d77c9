"""The modules together: what a rule leaves and changes, and what stays so when rules and kinds are turned about."""

import random
import unittest

from pairedaway.bounds import MAX_LENGTH, MAX_STATES
from pairedaway.lefts import left_of
from pairedaway.machines import both, either, less, smallest
from pairedaway.recurrences import recurrence
from pairedaway.rules import change
from pairedaway.verdicts import fault, fewest_drop, minus_left, unkept
from pairedaway.weighing import count, signed, spread, unlike, unlike_spread
from tests.helpers import every, reordered, told_words
from tests.test_verdicts import SIX, cases, right_cases
from tests.told_verdicts import told_minus_left


class LeftAndChangedTest(unittest.TestCase):
    def test_together_they_are_the_kind(self):
        for kind, signs, rule, weights in cases(21, 150):
            left = left_of(kind, rule)
            changed = less(kind, left)
            nothing = (kind[0], ((None,) * kind[0],), (False,))
            self.assertEqual(either(left, changed), smallest(kind))
            self.assertEqual(both(left, changed), nothing)
            self.assertEqual(less(left, kind), nothing)
            self.assertEqual(both(kind, left), smallest(left))
            words = told_words(changed, 4)
            self.assertEqual(words, [word for word in told_words(kind, 4) if change(rule, word) is not None])
            for length in (0, 1, 2, 3, 4, 7, 30):
                self.assertEqual(count(left, length) + count(changed, length), count(kind, length))
                self.assertEqual(
                    signed(left, signs, length) + signed(changed, signs, length), signed(kind, signs, length))

    def test_right_rules(self):
        """The signed counts are those of what is left, for each length."""
        for kind, signs, rule in right_cases(22, 120):
            left = left_of(kind, rule)
            self.assertIsNone(unlike(kind, signs, left, signs))
            self.assertEqual(recurrence(kind, signs), recurrence(left, signs))
            self.assertEqual(recurrence(less(kind, left), signs), ())
            for length in (*range(8), MAX_LENGTH):
                self.assertEqual(signed(kind, signs, length), signed(left, signs, length))

    def test_right_rules_that_keep_weights(self):
        """Then the spreads are alike, too."""
        chance = random.Random(23)
        kept = 0
        for kind, signs, rule in right_cases(24, 150):
            for weights in ((1,) * kind[0], tuple(chance.randint(-1, 1) for letter in range(kind[0]))):
                if unkept(kind, weights, rule) is None:
                    left = left_of(kind, rule)
                    self.assertIsNone(unlike_spread(kind, (signs, weights), left, (signs, weights)))
                    self.assertEqual(spread(kind, signs, weights, 6), spread(left, signs, weights, 6))
                    kept += 1
        self.assertGreater(kept, 150)

    def test_nothing_left_with_the_sign_minus(self):
        """Then as many words are left as the signed count of the kind tells."""
        found = 0
        for kind, signs, rule in right_cases(25, 150):
            if minus_left(kind, signs, rule) is None:
                left = left_of(kind, rule)
                self.assertIsNone(unlike(kind, signs, left, "+" * kind[0]))
                self.assertEqual([signed(kind, signs, length) for length in range(9)],
                                 [count(left, length) for length in range(9)])
                found += 1
        self.assertGreater(found, 20)

    def test_great_ones(self):
        for kind in (every(3), (3, ((1, 2, 3), (4, 5, 6), (7, 0, 1)) + ((2, 2, 2),) * 5, (True,) * MAX_STATES)):
            if fault(kind, "+-+", SIX) is None:
                left = left_of(kind, SIX)
                self.assertIsNone(unlike(kind, "+-+", left, "+-+"))
                self.assertEqual(recurrence(kind, "+-+"), recurrence(left, "+-+"))
        self.assertIsNone(fault(every(3), "+-+", SIX))


class TurnedAboutTest(unittest.TestCase):
    def assert_same(self, kind, signs, rule, weights, other, others):
        """The decisions for other, a kind of the same words, and others, a rule of the same changes."""
        self.assertEqual(fault(other, signs, others), fault(kind, signs, rule))
        self.assertEqual(unkept(other, weights, others), unkept(kind, weights, rule))
        self.assertEqual(minus_left(other, signs, others), minus_left(kind, signs, rule))
        self.assertEqual(fewest_drop(other, signs, others), fewest_drop(kind, signs, rule))

    def test_words_of_pairs_turned(self):
        for kind, signs, rule, weights in cases(26, 250):
            turned = tuple((other, one) for one, other in rule)
            self.assert_same(kind, signs, rule, weights, kind, turned)
            self.assertEqual(smallest(left_of(kind, turned)), smallest(left_of(kind, rule)))

    def test_states_in_another_order_or_added(self):
        chance = random.Random(27)
        for kind, signs, rule, weights in cases(28, 250):
            self.assert_same(kind, signs, rule, weights, reordered(chance, kind), rule)
            spare = chance.randint(0, MAX_STATES - len(kind[1]))
            self.assert_same(kind, signs, rule, weights, reordered(chance, kind, spare), rule)
            least = smallest(kind)
            self.assert_same(kind, signs, rule, weights, least, rule)

    def test_signs_exchanged(self):
        """A change turns the sign as before; a word has the other sign if its length is odd."""
        for kind, signs, rule, weights in cases(29, 250):
            exchanged = signs.translate({43: "-", 45: "+"})
            self.assertEqual(fault(kind, exchanged, rule), fault(kind, signs, rule))
            self.assertEqual(fewest_drop(kind, exchanged, rule), fewest_drop(kind, signs, rule))
            self.assertEqual(minus_left(kind, exchanged, rule), told_minus_left(kind, exchanged, rule))
            for length in range(6):
                self.assertEqual(signed(kind, exchanged, length), (-1) ** length * signed(kind, signs, length))

    def test_letters_exchanged(self):
        """With the letters of kind, signs, rule and weights turned, what is right stays right."""
        for kind, signs, rule, weights in cases(30, 200):
            letters = "abcd"[:kind[0]]
            table = str.maketrans(letters, letters[::-1])
            other = (kind[0], tuple(row[::-1] for row in kind[1]), kind[2])
            others = tuple((one.translate(table), two.translate(table)) for one, two in rule)
            for told, again in (
                (fault(kind, signs, rule), fault(other, signs[::-1], others)),
                (unkept(kind, weights, rule), unkept(other, weights[::-1], others)),
                (minus_left(kind, signs, rule), minus_left(other, signs[::-1], others)),
            ):
                self.assertEqual(told is None, again is None)
            self.assertEqual(fewest_drop(other, signs[::-1], others), fewest_drop(kind, signs, rule))


if __name__ == "__main__":
    unittest.main()
