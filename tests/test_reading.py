"""Tests of Pattern.read: points 18, 20, 22 and 23."""

import itertools
import unittest

from oneshard.errors import BadCount, BadLine, OneshardError
from oneshard.forms import Form
from oneshard.lines import Congruence, Equation, Unlike
from oneshard.patterns import Pattern


class Reading(unittest.TestCase):
    def wrong(self, text, number, row):
        with self.assertRaises(BadLine) as caught:
            Pattern.read(text)
        self.assertEqual((caught.exception.number, caught.exception.text), (number, row), repr(text))

    def wrong_row(self, *rows):
        """Check that each row is wrong, wherever it stands."""
        for row in rows:
            self.wrong(f"x y z\n{row}", 2, row)
            self.wrong(f"x y z\nx != y\nx = y\n{row}\nx != x", 4, row)

    def line(self, row):
        lines = Pattern.read(f"z x y\n{row}").lines
        self.assertEqual(len(lines), 1)
        return lines[0]

    def equation(self, row, coefficients, constant=0):
        """Check an equation, and the congruence with the same sides."""
        form = Form(coefficients, constant)
        self.assertEqual(self.line(row), Equation(form), row)
        for modulus in [2, 9, 10, 40]:
            self.assertEqual(self.line(f"{row} (mod {modulus})"), Congruence(form, modulus), row)

    def count(self, text):
        with self.assertRaises(BadCount) as caught:
            Pattern.read(text)
        return caught.exception.count


class Sides(Reading):
    def test_one_term_on_each_side(self):
        self.equation("x = y", {"x": 1, "y": -1})
        self.equation("y = x", {"x": -1, "y": 1})
        self.equation("x = 5", {"x": 1}, -5)
        self.equation("5 = x", {"x": -1}, 5)
        self.equation("3*x = 4*y", {"x": 3, "y": -4})
        self.equation("5 = 3", {}, 2)

    def test_many_terms_on_both_sides(self):
        self.equation("2*x + y - 3 = z + x - 4*y + 7", {"x": 1, "y": 5, "z": -1}, -10)
        self.equation("2*x + y = z + x - 3", {"x": 1, "y": 1, "z": -1}, 3)
        self.equation("x = y + z", {"x": 1, "y": -1, "z": -1})
        self.equation("x - y - z = 0", {"x": 1, "y": -1, "z": -1})
        self.equation("1 + 2 + 3 = 4 - 5 - 6", {}, 13)

    def test_leading_minus(self):
        self.equation("-x = y", {"x": -1, "y": -1})
        self.equation("x = -y", {"x": 1, "y": 1})
        self.equation("-2*x + y = -3 - z", {"x": -2, "y": 1, "z": 1}, 3)
        self.equation("-5 = -7", {}, 2)
        self.equation("-0 = -0*x", {})

    def test_names_several_times(self):
        self.equation("x + x + 2*x = x", {"x": 3})
        self.equation("x + y = y + x + 4", {}, -4)
        self.equation("x - x = 0", {})
        self.equation("y = y", {})
        self.equation("20*x + 20*x - 25*x = 5*y - 21*y + 999 + 1", {"x": 15, "y": 16}, -1000)

    def test_numbers_times_names(self):
        self.equation("20*x = -20*y", {"x": 20, "y": 20})
        self.equation("1*x = 0*y", {"x": 1})
        self.equation("0*x = 0", {})

    def test_numbers_of_one_to_six_digits(self):
        self.equation("0 = 0", {})
        self.equation("9 = 0", {}, 9)
        self.equation("10 = 0", {}, 10)
        self.equation("123 = 0", {}, 123)
        self.equation("1000 = 0", {}, 1000)
        self.equation("12345 = 12000", {}, 345)
        self.equation("999999 = 999000", {}, 999)
        self.equation("100000*x - 999999 = 99999*x - 999990 + 1", {"x": 1}, -10)

    def test_sums_out_of_range_between_may_come_back(self):
        self.equation("500000 + x = 499999 + 999999*x - 999999*x", {"x": 1}, 1)

    def test_names_with_digits_and_six_characters(self):
        pattern = Pattern.read("x1 abcdef m\n2*x1 + abcdef = m (mod 5)\nabcdef != x1")
        self.assertEqual(pattern.names, ("x1", "abcdef", "m"))
        self.assertEqual(pattern.lines, (Congruence(Form({"x1": 2, "abcdef": 1, "m": -1}), 5),
                                         Unlike("abcdef", "x1")))

    def test_inequalities(self):
        self.assertEqual(self.line("x != y"), Unlike("x", "y"))
        self.assertEqual(self.line("y != x"), Unlike("y", "x"))
        self.assertEqual(self.line("z != y"), Unlike("z", "y"))

    def test_largest_numbers_in_range(self):
        self.equation("20*x - 20*y = 1000", {"x": 20, "y": -20}, -1000)
        self.equation("-20*x + 20*y = -1000", {"x": -20, "y": 20}, 1000)

    def test_very_long_rows(self):
        many = " + ".join(["x - x"] * 1500)
        self.equation(f"{many} + y = 0", {"y": 1})
        self.equation(f"y = {many} - 3*y", {"y": 4})
        self.equation(f"3 - {' - '.join(['1'] * 1002)} = z", {"z": -1}, -999)
        self.wrong_row(f"{many} + = y", f"{many} x = y", f"{many} + q = y", f"{' + '.join(['x'] * 1100)} = y")


class WrongRows(Reading):
    def test_empty_rows(self):
        self.wrong_row("")
        self.wrong("x\n", 2, "")
        self.wrong("x y\nx = y\n", 3, "")
        self.wrong("x y\n\nx = y", 2, "")
        self.wrong("x\n\n\n", 2, "")

    def test_blanks(self):
        self.wrong_row(" ", " x = y", "x = y ", "x  = y", "x =  y", "x = y  + z", "x = y +  z", "x=y", "x =y",
                       "x= y", "x+y = z", "x +y = z", "x+ y = z", "- x = y", "x = - y", "2 * x = y", "2* x = y",
                       "2 *x = y", "x\t= y", "2 x = y")
        self.wrong_row(" x != y", "x != y ", "x  != y", "x !=  y", "x!=y", "x != y z", "x! = y", "x ! = y")

    def test_blanks_of_congruences(self):
        self.wrong_row(" x = y (mod 5)", "x = y (mod 5) ", "x = y  (mod 5)", "x = y (mod  5)", "x = y (mod5)",
                       "x = y (mod 5 )", "x = y ( mod 5)", "x = y(mod 5)", "x  = y (mod 5)")

    def test_numbers(self):
        self.wrong_row("x = 05", "x = 00", "x = -01", "x = 000001", "01*x = y", "00*x = y", "x + 07 = y")
        self.wrong_row("x = 1000000", "x = 1000000 - 999999", "0000000 = x", "1000000*x = 999999*x",
                       "1234567 = 1234567", "x = 1000000000000", "x = y + 9999999*z - 9999999*z")
        self.wrong_row("x = 1.5", "x = 1e2", "x = 1_0", "x = 0x1", "x = 1/2")

    def test_signs(self):
        self.wrong_row("+x = y", "x = +y", "+ x = y", "x = + y", "--x = y", "x = --y", "x - -y = z", "x + -y = z",
                       "x + +y = z", "x - + y = z", "x + - y = z", "x + + + y = z", "x = -", "- = x", "-", "+",
                       "x + = y", "x - = y", "x = y +", "x = y -", "x = y + ", "x + + y = z", "-2*-x = y",
                       "x = 2*-y", "x = y * z", "x = y + + z", "x = y , z")

    def test_terms(self):
        self.wrong_row("x*2 = y", "2x = y", "x2* = y", "2* = y", "*x = y", "* = y", "2*3 = x", "2*3*x = y", "x*y = z",
                       "2**x = y", "2*x* = y", "(x) = y", "X = y", "x = 2*Y", "x = 2*mod", "mod = x", "x = 2*1x",
                       "x = abcdefg", "x = 2*abcdefg", "1x = y")

    def test_sides(self):
        self.wrong_row(" = y", "x = ", " = ", "=", "x", "x y", "5", "x = y = z", "x == y", "x < y", "x = y != z",
                       "x != y = z", "= x", "x =", "x + y")

    def test_names_that_the_first_row_does_not_have(self):
        self.wrong_row("x = a", "a = x", "x = 2*a", "x + a = y + a", "a = a", "a - a = 0", "x = 0*a", "0*a = 0",
                       "x = y + a (mod 5)", "a - a = x (mod 5)", "0*a = 0 (mod 5)", "x != a", "a != x", "a != b",
                       "x = x1", "xx = x", "x = mod1")

    def test_name_compared_with_itself(self):
        self.wrong_row("x != x", "z != z", "a != a")

    def test_inequalities_have_names_only(self):
        self.wrong_row("x != 5", "5 != x", "x != 2*y", "-x != y", "x != -y", "x + y != z", "x != y + z", "x !=", "!= x",
                       "x != ", " != x", " != ", "!=", "x != y != z", "x != y (mod 5)", "mod != x", "x != X")

    def test_moduli(self):
        self.wrong_row("x = y (mod 0)", "x = y (mod 1)", "x = y (mod 41)", "x = y (mod 100)", "x = y (mod 999999)",
                       "x = y (mod 1000002)", "x = y (mod -5)", "x = y (mod +5)", "x = y (mod 05)", "x = y (mod 00)",
                       "x = y (mod )", "x = y (mod z)", "x = y (mod 2*3)", "x = y (mod 2 + 3)")

    def test_ends_of_congruences(self):
        self.wrong_row("x = y (mod 5", "x = y mod 5", "x = y mod 5)", "x = y (mod 5))", "x = y ((mod 5)",
                       "x = y (mod 5).", "x = y (mod 5) (mod 5)", "x (mod 5) = y", "x = y (Mod 5)", "(mod 5)",
                       " (mod 5)", "x (mod 5)", "x = y (mod", "x = y (mod ", "x = y (mod 5) + z", "x = (mod 5)",
                       "x =  (mod 5)", "x = y 5)", "x = y (mod 5)x", "x = y (mod 5x")

    def test_out_of_range_only_after_adding_up(self):
        self.wrong_row("21*x = y", "x = 21*y", "20*x + x = y", "20*x = -x", "-20*x = x", "x = 1001", "1001 = x",
                       "1000 + x = -1", "x = 999999", "20*x = 1000 + 1", "-21*z = 0")
        self.wrong_row("21*x = y (mod 5)", "20*x = -x (mod 5)", "1000 + x = -1 (mod 5)", "x = 999999 (mod 40)")

    def test_other_rows(self):
        self.wrong_row("x y z", "hello", "#", "x = y; y = z", "x = y, y = z", "x = y # sum", "\\", "x = \"y\"")


class FirstRow(Reading):
    def test_right_first_rows(self):
        for row in ["x", "x y", "b a", "a b c d e f", "x1 abcdef m mo mod1"]:
            self.assertEqual(Pattern.read(row), Pattern(row.split(" ")))

    def test_wrong_first_rows(self):
        rows = ["", "a b c d e f g", "x x", "x y x", "x mod", "mod", "X", "x 1x", "abcdefg", "x  y", " x", "x ", " ",
                "x y ", " x y", "x,y", "x, y", "x\ty", "5", "x = y", "x != y"]
        for row in rows:
            self.wrong(row, 1, row)
            self.wrong(f"{row}\nx = x", 1, row)
            self.wrong(f"{row}\n", 1, row)

    def test_empty_text_and_newline_alone(self):
        self.wrong("", 1, "")
        self.wrong("\n", 1, "")
        self.wrong("\nx", 1, "")

    def test_many_wrong_names(self):
        row = " ".join(["x"] * 5000)
        self.wrong(row, 1, row)


class Order(Reading):
    def test_counts(self):
        self.assertEqual(len(Pattern.read("x y" + "\nx != y" * 5)), 5)
        self.assertEqual(self.count("x y" + "\nx != y" * 6), 6)
        self.assertEqual(self.count("x y" + "\nx != y" * 7), 7)
        self.assertEqual(self.count("x y" + "\nx != y" * 5000), 5000)

    def test_newline_at_the_end_counts_as_a_row(self):
        self.assertEqual(self.count("x y" + "\nx != y" * 5 + "\n"), 6)
        self.assertEqual(self.count("x" + "\n" * 6), 6)
        self.wrong("x y" + "\nx != y" * 4 + "\n", 6, "")

    def test_first_row_comes_before_the_count(self):
        self.wrong("x x" + "\nx != y" * 6, 1, "x x")
        self.wrong("\n" * 9, 1, "")

    def test_count_comes_before_the_rows(self):
        self.assertEqual(self.count("x\nwrong" + "\nx = 1" * 5), 6)

    def test_first_wrong_row(self):
        rows = ["x != y", "x = y", "x = 5 (mod 7)", "x + y = z", "0 = 0"]
        wrong = ["", "x  = y", "x = 1001", "x != x", "x = a"]
        for first, second in itertools.combinations(range(5), 2):
            mixed = list(rows)
            mixed[first] = wrong[first]
            mixed[second] = wrong[second]
            self.wrong("\n".join(["x y z", *mixed]), first + 2, wrong[first])

    def test_every_place_of_a_wrong_row(self):
        for place in range(5):
            rows = ["x = y"] * 5
            rows[place] = "x = y = z"
            self.wrong("\n".join(["x y z", *rows]), place + 2, "x = y = z")

    def test_errors_of_the_program(self):
        for text in ["", "x\n\n", "x" + "\n" * 6]:
            self.assertRaises(OneshardError, Pattern.read, text)


class ThereAndBack(Reading):
    def check(self, pattern):
        text = str(pattern)
        again = Pattern.read(text)
        self.assertEqual(again, pattern, text)
        self.assertEqual(str(again), text)

    def test_all_kinds_of_lines(self):
        forms = [Form({"x": first, "y": second, "z": 1 - abs(first)}, constant)
                 for first in [-20, -2, -1, 0, 1, 2, 20]
                 for second in [-20, -1, 0, 1, 3]
                 for constant in [-1000, -1, 0, 1, 1000]]
        forms = [form for form in forms if abs(form["z"]) <= 20]
        for form in forms:
            self.check(Pattern(["z", "y", "x"], [Equation(form)]))
            self.check(Pattern(["x", "y", "z"], [Congruence(form, 2), Unlike("z", "x"), Congruence(form, 40)]))

    def test_without_lines(self):
        self.check(Pattern(["x"]))
        self.check(Pattern(["f", "e", "d", "c", "b", "a"]))

    def test_five_lines(self):
        self.check(Pattern(["b", "a"], [Unlike("b", "a"), Unlike("a", "b"), Equation(Form({})),
                                        Congruence(Form({}, 7), 3), Equation(Form({"a": -1, "b": -1}, -1))]))

    def test_read_text_is_written_in_its_own_way(self):
        pattern = Pattern.read("y x\n3 = x + y - x\nx + 2 = 1*y + 0*x - 5 (mod 7)\ny != x")
        self.assertEqual(str(pattern), "y x\n-y = -3\nx - y = -7 (mod 7)\ny != x")
        self.check(pattern)

    def test_same_text_gives_equal_patterns(self):
        text = "x y\nx = 2*y\nx != y"
        self.assertEqual(Pattern.read(text), Pattern.read(text))
        self.assertIsNot(Pattern.read(text), Pattern.read(text))


class Examples(Reading):
    def test_text(self):
        pattern = Pattern.read("x y z\n2*x + y = z + x - 3\nx = y (mod 4)\nx != z")
        self.assertEqual(str(pattern), "x y z\nx + y - z = -3\nx - y = 0 (mod 4)\nx != z")

    def test_solutions(self):
        pattern = Pattern.read("x y\nx + y = 5")
        self.assertEqual([pattern.holds({"y": 2, "x": 3}), pattern.holds({"x": 5, "y": 0}),
                          len(pattern.without([0]))], [True, False, 0])

    def test_wrong_row(self):
        self.wrong("x y\nx + y = 5\nx  != y", 3, "x  != y")


if __name__ == "__main__":
    unittest.main()
