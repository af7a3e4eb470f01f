"""Promises [3] to [6]: ratios."""

import operator
import unittest
from fractions import Fraction

from partstell.errors import NoRatio
from partstell.ratios import Ratio
from partstell.spaces import Space

HUGE = 10 ** 70 + 7
PAIRS = (
    (0, 1), (1, 1), (-1, 1), (2, 1), (-7, 1), (1, 2), (-1, 2), (3, 4), (-7, 2), (10, 3), (-10, 3),
    (HUGE, 3), (-HUGE, 10 ** 40 + 3), (3, HUGE),
)
NUMBERS = (0, 1, -1, 2, -3, 12, HUGE, -HUGE)
ODD = (None, True, False, "1", b"1", (1,), [1], {}, Ratio(1), Space, Space([("a", "x".split())]))


def same(case, found, told):
    """Ask that a Ratio is in lowest terms and has this value."""
    case.assertIsInstance(found, Ratio)
    case.assertEqual((found.top, found.bottom), (told.numerator, told.denominator))
    case.assertTrue(isinstance(found.top, int) and isinstance(found.bottom, int))


def operand_pairs():
    """Give operands with what they are worth: each Ratio beside all, each integer beside Ratios."""
    ratios = [(Ratio(*pair), Fraction(*pair)) for pair in PAIRS]
    numbers = [(number, Fraction(number)) for number in NUMBERS]
    for left in ratios:
        for right in ratios + numbers:
            yield (*left, *right)
    for left in numbers:
        for right in ratios:
            yield (*left, *right)


class Refusing(unittest.TestCase):
    def refused(self, word, call, *given, **named):
        with self.assertRaises(NoRatio) as held:
            call(*given, **named)
        self.assertEqual(held.exception.word, word)


class Making(Refusing):
    def test_lowest_terms(self):
        for top, bottom in ((3, -6), (-3, 6), (3, 6), (-3, -6), (12, 8), (7, 7), (-8, 4), (5, 1)):
            same(self, Ratio(top, bottom), Fraction(top, bottom))
        self.assertEqual((Ratio(3, -6).top, Ratio(3, -6).bottom), (-1, 2))

    def test_zero_is_0_over_1(self):
        for bottom in (1, -1, 5, -5, HUGE, -HUGE):
            same(self, Ratio(0, bottom), Fraction(0))

    def test_bottom_is_1_by_default(self):
        for number in NUMBERS:
            same(self, Ratio(number), Fraction(number))

    def test_huge_integers(self):
        same(self, Ratio(HUGE * 6, -HUGE * 4), Fraction(-3, 2))
        same(self, Ratio(10 ** 3000 + 1, 10 ** 2999), Fraction(10 ** 3000 + 1, 10 ** 2999))

    def test_by_keywords(self):
        same(self, Ratio(bottom=4, top=2), Fraction(1, 2))

    def test_many_small_ones(self):
        for top in range(-15, 16):
            for bottom in [*range(-15, 0), *range(1, 16)]:
                same(self, Ratio(top, bottom), Fraction(top, bottom))

    def test_what_is_no_integer(self):
        for odd in ODD:
            self.refused("top", Ratio, odd)
            self.refused("top", Ratio, odd, 3)
            self.refused("bottom", Ratio, 3, odd)

    def test_the_first_word_that_is_due(self):
        self.refused("top", Ratio, "1", "1")
        self.refused("top", Ratio, True, 0)
        self.refused("top", Ratio, None, None)
        self.refused("bottom", Ratio, 0, False)
        self.refused("zero", Ratio, 1, 0)
        self.refused("zero", Ratio, 0, 0)


class Arithmetic(Refusing):
    def test_plus_minus_times(self):
        for sign in (operator.add, operator.sub, operator.mul):
            for left, left_worth, right, right_worth in operand_pairs():
                same(self, sign(left, right), sign(left_worth, right_worth))

    def test_floor_and_rest(self):
        for left, left_worth, right, right_worth in operand_pairs():
            if right_worth == 0:
                self.refused("zero", operator.floordiv, left, right)
                self.refused("zero", operator.mod, left, right)
            else:
                floor = left // right
                self.assertIs(type(floor), int)
                self.assertEqual(floor, left_worth // right_worth)
                same(self, left % right, left_worth % right_worth)

    def test_floor_goes_down_for_both_signs(self):
        self.assertEqual(Ratio(7, 2) // -1, -4)
        self.assertEqual(Ratio(-7, 2) // 1, -4)
        self.assertEqual(Ratio(-7, 2) // -1, 3)
        self.assertEqual(-7 // Ratio(2), -4)
        self.assertEqual(7 // Ratio(-2), -4)
        self.assertEqual((Ratio(7, 2) % -1).text(), "-1/2")
        self.assertEqual((7 % Ratio(-2)).text(), "-1")
        self.assertEqual((-7 % Ratio(5, 2)).text(), "1/2")

    def test_signs_and_abs(self):
        for pair in PAIRS:
            same(self, -Ratio(*pair), -Fraction(*pair))
            same(self, +Ratio(*pair), Fraction(*pair))
            same(self, abs(Ratio(*pair)), abs(Fraction(*pair)))

    def test_over(self):
        for left, left_worth, right, right_worth in operand_pairs():
            if isinstance(left, Ratio) and right_worth != 0:
                same(self, left.over(right), left_worth / right_worth)

    def test_over_zero(self):
        for pair in PAIRS:
            for zero in (0, Ratio(0), Ratio(0, -3)):
                self.refused("zero", Ratio(*pair).over, zero)

    def test_over_by_keyword(self):
        same(self, Ratio(3).over(number=-6), Fraction(-1, 2))

    def test_power(self):
        for top, bottom in ((0, 1), (1, 1), (-1, 1), (2, 1), (-2, 3), (3, -2), (7, 5), (HUGE, 2)):
            for k in range(-20, 21):
                if top == 0 and k < 0:
                    self.refused("zero", Ratio(top, bottom).power, k)
                    self.refused("zero", operator.pow, Ratio(top, bottom), k)
                else:
                    same(self, Ratio(top, bottom).power(k), Fraction(top, bottom) ** k)
                    same(self, Ratio(top, bottom) ** k, Fraction(top, bottom) ** k)

    def test_power_0_is_1(self):
        for pair in PAIRS:
            same(self, Ratio(*pair).power(0), Fraction(1))
            same(self, Ratio(*pair) ** 0, Fraction(1))

    def test_exponents_that_are_not_as_told(self):
        for k in (21, -21, 100, -100, HUGE, -HUGE, *ODD):
            for base in (Ratio(0), Ratio(1), Ratio(-2, 3)):
                self.refused("power", base.power, k)
                self.refused("power", operator.pow, base, k)

    def test_power_comes_ahead_of_zero(self):
        self.refused("power", Ratio(0).power, -21)
        self.refused("power", Ratio(0).power, True)
        self.refused("zero", Ratio(0).power, -20)
        self.refused("zero", Ratio(0).power, k=-1)

    def test_in_place_operators_give_a_new_object(self):
        for sign, word in (
            (operator.iadd, "19/6"), (operator.isub, "23/6"), (operator.imul, "-7/6"),
            (operator.imod, "-1/6"), (operator.ifloordiv, None),
        ):
            old = Ratio(7, 2)
            held = sign(old, Ratio(-1, 3))
            self.assertEqual((old.top, old.bottom), (7, 2))
            self.assertIsNot(held, old)
            if word is None:
                self.assertEqual(held, -11)
            else:
                self.assertEqual(held.text(), word)
        old = Ratio(7, 2)
        name = old
        name **= 2
        self.assertEqual((old.text(), name.text()), ("7/2", "49/4"))
        name = old
        name += 0
        self.assertIsNot(name, old)
        number = 1
        number += old
        self.assertEqual(number.text(), "9/2")

    def test_operands_stay_as_they_are(self):
        for sign in (operator.add, operator.sub, operator.mul, operator.floordiv, operator.mod):
            left, right = Ratio(5, 3), Ratio(-3, 4)
            sign(left, right)
            left.over(right)
            left.power(-3)
            self.assertEqual((left.top, left.bottom, right.top, right.bottom), (5, 3, -3, 4))

    def test_a_refused_call_changes_nothing(self):
        zero, ratio = Ratio(0), Ratio(5, 3)
        for call in (
            lambda: ratio // zero, lambda: ratio % zero, lambda: ratio.over(zero),
            lambda: zero.power(-1), lambda: ratio ** 21,
        ):
            with self.assertRaises(NoRatio):
                call()
            self.assertEqual((zero.top, zero.bottom, ratio.top, ratio.bottom), (0, 1, 5, 3))

    def test_another_kind_is_left_to_the_other_operand(self):
        class Other:
            def __rmul__(self, left):
                return ("times", left.text())

            def __radd__(self, left):
                return ("plus", left.text())

        self.assertEqual(Ratio(1, 2) * Other(), ("times", "1/2"))
        self.assertEqual(Ratio(1, 2) + Other(), ("plus", "1/2"))

    def test_a_kind_that_nobody_takes_is_refused_by_python(self):
        for sign in (
            operator.add, operator.sub, operator.mul, operator.floordiv, operator.mod,
            operator.lt, operator.le, operator.gt, operator.ge,
        ):
            for odd in (None, object(), {}):
                with self.assertRaises(TypeError):
                    sign(Ratio(1, 2), odd)
                with self.assertRaises(TypeError):
                    sign(odd, Ratio(1, 2))


class Comparing(unittest.TestCase):
    def test_order_and_equality(self):
        for sign in (operator.lt, operator.le, operator.gt, operator.ge, operator.eq, operator.ne):
            for left, left_worth, right, right_worth in operand_pairs():
                found = sign(left, right)
                self.assertIs(found, sign(left_worth, right_worth), (sign, left, right))

    def test_equal_values_made_otherwise(self):
        self.assertTrue(Ratio(2, 4) == Ratio(-1, -2))
        self.assertFalse(Ratio(2, 4) != Ratio(-1, -2))
        self.assertTrue(Ratio(6, 3) == 2 and 2 == Ratio(6, 3))
        self.assertFalse(Ratio(6, 3) != 2 or 2 != Ratio(6, 3))
        self.assertFalse(Ratio(1, 2) == 1 or Ratio(1, 2) == 0 or 1 == Ratio(1, 2))

    def test_unequal_to_anything_else(self):
        space = Space([("a", ["x"])])
        ratio = Ratio(1, 2)
        for other in (
            None, "1/2", "1", b"1", (1, 2), [1, 2], (1, 1), {"top": 1}, (), Ratio, int,
            space, space.whole(), space.empty(), NoRatio("top"), len, NotImplemented,
        ):
            for left in (ratio, Ratio(1), Ratio(0)):
                self.assertIs(left == other, False)
                self.assertIs(left != other, True)
                self.assertIs(other == left, False)
                self.assertIs(other != left, True)


class Texts(Refusing):
    def test_text(self):
        for top, bottom, text in (
            (3, 4, "3/4"), (-5, 1, "-5"), (0, 7, "0"), (6, -4, "-3/2"), (1, 1, "1"), (10, 2, "5"),
            (-1, 10, "-1/10"), (HUGE, 1, str(HUGE)), (-HUGE, 3, f"-{HUGE}/3"),
        ):
            self.assertEqual(Ratio(top, bottom).text(), text)

    def test_text_of_4000_digits(self):
        top = 10 ** 4000 - 1
        self.assertEqual(Ratio(-top).text(), "-" + "9" * 4000)
        self.assertEqual(Ratio(1, top).text(), "1/" + "9" * 4000)

    def test_read_gives_the_ratio_of_the_text(self):
        for text in ("0", "1", "-1", "3/4", "-3/4", "10", "-105/2", "1/10", "7/30"):
            same(self, Ratio.read(text), Fraction(text))
            self.assertEqual(Ratio.read(text).text(), text)
        for top in range(-12, 13):
            for bottom in range(1, 13):
                same(self, Ratio.read(Ratio(top, bottom).text()), Fraction(top, bottom))

    def test_read_is_static(self):
        self.assertIsInstance(vars(Ratio)["read"], staticmethod)
        self.assertEqual(Ratio(5).read("1/2").text(), "1/2")
        self.assertEqual(Ratio.read(text="1/2").text(), "1/2")

    def test_60_digits(self):
        long = "1" + "0" * 59
        same(self, Ratio.read(long), Fraction(10 ** 59))
        same(self, Ratio.read("-" + long), Fraction(-(10 ** 59)))
        same(self, Ratio.read("1/" + long), Fraction(1, 10 ** 59))
        nines = "9" * 60
        same(self, Ratio.read(f"-{nines}/{long}"), Fraction(1 - 10 ** 60, 10 ** 59))

    def test_61_digits(self):
        long = "1" + "0" * 60
        for text in (long, "-" + long, "1/" + long, "-1/" + long, long + "/3", f"{long}/{long}1"):
            self.refused("text", Ratio.read, text)

    def test_long_strings(self):
        for text in ("1" * 100000, "1/" + "3" * 100000, "-" * 100000, "/" * 100000):
            self.refused("text", Ratio.read, text)

    def test_what_is_not_as_text_writes_it(self):
        for text in (
            "", "-", "/", "-/", "1/", "/1", "-/2", "2/4", "3/1", "0/1", "0/5", "-0", "-0/1", "00",
            "01", "-01", "1/02", "01/2", "1/0", "0/0", "-1/0", "1/-2", "-1/-2", "+1", "+1/2", "--1",
            "1/+2", "1/2/3", "1//2", " 1", "1 ", "1 /2", "1/ 2", "1\n", "\n1", "1/2\n", "1_0", "1/1_0",
            "1.0", "0.5", "1e3", "0x1", "a", "one", "1/a", "a/1", "\u0661", "\u00b2", "1/\u0662",
            "1\u00b2", "\uff11", "4/6", "-4/6", "10/5", "1/1", "-1/1", "- 1", "1-", "1/2-", "\u22121",
        ):
            self.refused("text", Ratio.read, text)

    def test_what_is_no_string(self):
        for odd in (*ODD[:3], *ODD[4:], 1, 0, -5, ("1", "2"), ["1"], b"1/2", Ratio(1, 2), str):
            self.refused("text", Ratio.read, odd)


if __name__ == "__main__":
    unittest.main()
