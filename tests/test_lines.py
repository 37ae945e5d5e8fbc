"""Tests of oneshard.lines: points 15 to 18, and points 7 to 9 for lines."""

import itertools
import unittest

from oneshard.errors import BadName, DuplicateName, OneshardError, OutOfRange, UnknownName
from oneshard.forms import Form
from oneshard.lines import Congruence, Equation, Unlike

BIG = 10 ** 30 - 1
WRONG_NAMES = ["", "abcdefg", "mod", "x y", " x", "x ", "X", "xY", "x\n", "\nx", "1x", "x_", "x*"]


class Raising(unittest.TestCase):
    def value(self, call, *arguments):
        """Return the value of the OutOfRange that the call raises."""
        with self.assertRaises(OutOfRange) as caught:
            call(*arguments)
        return caught.exception.value

    def name(self, error, call, *arguments):
        """Return the name of the error that the call raises."""
        with self.assertRaises(error) as caught:
            call(*arguments)
        return caught.exception.name


def equation(form):
    return Equation(form)


def congruence(form):
    return Congruence(form, 5)


class Ranges(Raising):
    def test_coefficients_in_range(self):
        for build in [equation, congruence]:
            for number in range(-20, 21):
                self.assertEqual(build(Form({"x": number, "y": 1})).form["x"], number)

    def test_coefficients_out_of_range(self):
        for build in [equation, congruence]:
            for number in [21, -21, 22, 100, -1000, BIG, -BIG, 10 ** 5000]:
                self.assertEqual(self.value(build, Form({"x": number})), number)
                self.assertEqual(self.value(build, Form({"x": 20, "y": number, "z": -20}, 1000)), number)

    def test_first_coefficient_in_ascending_order_of_names(self):
        numbers = {"a": 21, "b": -22, "x10": 23, "x2": -24}
        for build in [equation, congruence]:
            for order in itertools.permutations(numbers):
                self.assertEqual(self.value(build, Form({name: numbers[name] for name in order}, 1001)), 21)
            self.assertEqual(self.value(build, Form({"x2": -24, "x10": 23, "a": 20})), 23)
            self.assertEqual(self.value(build, Form({"x2": -24, "b": 20, "a": 20})), -24)

    def test_the_first_counts_and_not_the_largest(self):
        for build in [equation, congruence]:
            self.assertEqual(self.value(build, Form({"x": 21, "y": BIG}, -BIG)), 21)

    def test_constants_in_range(self):
        for build in [equation, congruence]:
            for number in [-1000, -999, -21, -1, 0, 1, 21, 999, 1000]:
                self.assertEqual(build(Form({"x": 1}, number)).form.constant, number)
                self.assertEqual(build(Form({}, number)).form.constant, number)

    def test_constants_out_of_range(self):
        for build in [equation, congruence]:
            for number in [1001, -1001, 5000, BIG, -BIG, -10 ** 5000]:
                self.assertEqual(self.value(build, Form({"x": 20}, number)), number)
                self.assertEqual(self.value(build, Form({}, number)), number)

    def test_coefficients_come_before_the_constant(self):
        for build in [equation, congruence]:
            self.assertEqual(self.value(build, Form({"z": -21}, 1001)), -21)

    def test_moduli_in_range(self):
        for modulus in range(2, 41):
            self.assertEqual(Congruence(Form({"x": 1}), modulus).modulus, modulus)

    def test_moduli_out_of_range(self):
        for modulus in [-1, 0, 1, 41, -2, -40, 42, 1000, BIG, -BIG]:
            self.assertEqual(self.value(Congruence, Form({"x": 20}, 1000), modulus), modulus)
            self.assertEqual(self.value(Congruence, Form({}), modulus), modulus)

    def test_the_form_comes_before_the_modulus(self):
        self.assertEqual(self.value(Congruence, Form({"x": -21}), 41), -21)
        self.assertEqual(self.value(Congruence, Form({"x": 1}, -1001), 0), -1001)
        self.assertEqual(self.value(Congruence, Form({"x": 30}, -1001), 1), 30)

    def test_reckoned_forms(self):
        form = Form({"x": 15})
        self.assertEqual(self.value(equation, form + form), 30)
        self.assertEqual(Equation(form * 40 - form * 39).form, form)


class UnlikeNames(Raising):
    def test_wrong_first_name(self):
        for wrong in WRONG_NAMES:
            self.assertEqual(self.name(BadName, Unlike, wrong, "x"), wrong)

    def test_wrong_second_name(self):
        for wrong in WRONG_NAMES:
            self.assertEqual(self.name(BadName, Unlike, "x", wrong), wrong)

    def test_both_wrong(self):
        for first, second in itertools.permutations(WRONG_NAMES, 2):
            self.assertEqual(self.name(BadName, Unlike, first, second), first)

    def test_equal_wrong_names(self):
        for wrong in WRONG_NAMES:
            self.assertEqual(self.name(BadName, Unlike, wrong, wrong), wrong)

    def test_equal_right_names(self):
        for right in ["x", "abcdef", "z9", "mod1"]:
            self.assertEqual(self.name(DuplicateName, Unlike, right, right), right)

    def test_right_names(self):
        line = Unlike("x", "abcde1")
        self.assertEqual([line.first, line.second], ["x", "abcde1"])

    def test_arguments_by_name(self):
        line = Unlike(second="b", first="a")
        self.assertEqual([line.first, line.second], ["a", "b"])


class Parts(unittest.TestCase):
    def test_kinds_of_classes_and_objects(self):
        expected = [(Equation, Equation(Form({})), "equation"),
                    (Congruence, Congruence(Form({}), 2), "congruence"),
                    (Unlike, Unlike("x", "y"), "inequality")]
        for built, line, kind in expected:
            self.assertEqual([built.KIND, line.KIND], [kind, kind])

    def test_names_ascend(self):
        form = Form({"x2": 1, "z": 0, "x10": -1, "b": 3})
        for line in [Equation(form), Congruence(form, 7)]:
            self.assertIs(type(line.names), tuple)
            self.assertEqual(line.names, ("b", "x10", "x2"))

    def test_no_names(self):
        for line in [Equation(Form({}, 3)), Congruence(Form({"x": 0}, 3), 7)]:
            self.assertEqual(line.names, ())

    def test_names_of_an_inequality_keep_their_order(self):
        for first, second in [("x", "y"), ("y", "x"), ("b", "a")]:
            line = Unlike(first, second)
            self.assertIs(type(line.names), tuple)
            self.assertEqual(line.names, (first, second))
            self.assertEqual((line.first, line.second), (first, second))

    def test_forms_and_moduli(self):
        form = Form({"x": 2, "y": -3}, 7)
        self.assertEqual(Equation(form).form, form)
        self.assertEqual(Congruence(form, 7).form, form)
        self.assertEqual(Congruence(form, 7).modulus, 7)
        self.assertEqual(Equation(form=form), Equation(form))
        self.assertEqual(Congruence(modulus=7, form=form), Congruence(form, 7))

    def test_the_form_stays_as_it_is(self):
        coefficients = {"y": 1, "x": 2}
        form = Form(coefficients, 3)
        line = Equation(form)
        coefficients["x"] = 9
        line.form.coefficients["x"] = 9
        form *= 5
        self.assertEqual(line.form, Form({"x": 2, "y": 1}, 3))
        self.assertEqual(form, Form({"x": 10, "y": 5}, 15))

    def test_properties_cannot_be_assigned(self):
        form = Form({"x": 1})
        expected = [(Equation(form), ["form", "names"]), (Congruence(form, 3), ["form", "modulus", "names"]),
                    (Unlike("x", "y"), ["first", "second", "names"])]
        for line, words in expected:
            before = str(line)
            for word in words:
                with self.assertRaises(AttributeError):
                    setattr(line, word, None)
            self.assertEqual(str(line), before)


def some_lines():
    """Return lines of which no two are equal."""
    forms = [Form({"x": 2, "y": -3}, 7), Form({"x": 2, "y": 3}, 7), Form({"x": -2, "y": 3}, -7),
             Form({"x": 2, "y": -3}, 2), Form({"x": 2, "y": -3}, 12), Form({"x": 2, "z": -3}, 7),
             Form({"x": 2}, 7), Form({"x": 4, "y": -6}, 14), Form({}), Form({}, 7), Form({"x": 1, "y": -1})]
    return ([Equation(form) for form in forms]
            + [Congruence(form, modulus) for form in forms for modulus in [5, 6, 10]]
            + [Unlike("x", "y"), Unlike("y", "x"), Unlike("x", "z"), Unlike("z", "y")])


class Equality(unittest.TestCase):
    def test_equal_exactly_if_all_is_equal(self):
        for (at, line), (place, other) in itertools.product(enumerate(some_lines()), enumerate(some_lines())):
            self.assertIsNot(line, other)
            self.assertIs(line == other, at == place, f"{line} and {other}")
            self.assertIs(line != other, at != place, f"{line} and {other}")

    def test_order_of_names_and_zeros_do_not_count(self):
        self.assertEqual(Equation(Form({"x": 1, "y": 2, "z": 0})), Equation(Form({"y": 2, "x": 1})))
        self.assertEqual(Congruence(Form({"x": 1, "y": 2, "z": 0}), 9), Congruence(Form({"y": 2, "x": 1}), 9))

    def test_not_equal_to_other_things(self):
        for line in some_lines():
            for other in [0, None, str(line), (), Form({}), Form({"x": 2, "y": -3}, 7), ("x", "y")]:
                self.assertIs(line == other, False)
                self.assertIs(other == line, False)
                self.assertIs(line != other, True)


class Holding(Raising):
    def check(self, line, values, expected):
        before = list(values.items())
        self.assertIs(line.holds(values), expected, f"{line} for {values}")
        self.assertEqual(list(values.items()), before)

    def test_equations(self):
        line = Equation(Form({"x": 2, "y": -3}, 7))
        self.check(line, {"x": 1, "y": 3}, True)
        self.check(line, {"y": 3, "x": 1}, True)
        self.check(line, {"x": -2, "y": 1}, True)
        self.check(line, {"x": -5, "y": -1}, True)
        self.check(line, {"x": 3, "y": 1}, False)
        self.check(line, {"x": 0, "y": 0}, False)
        self.check(line, {"x": 3 * BIG - 2, "y": 2 * BIG + 1}, True)
        self.check(line, {"x": 3 * BIG - 2, "y": 2 * BIG + 2}, False)

    def test_congruences(self):
        line = Congruence(Form({"x": 2, "y": -3}, 7), 5)
        for x, y in itertools.product(range(-7, 8), repeat=2):
            self.check(line, {"x": x, "y": y}, (2 * x - 3 * y + 7) in range(-200, 200, 5))
        self.check(line, {"x": 5 * BIG + 4, "y": 0}, True)
        self.check(line, {"x": -5 * BIG, "y": 0}, False)

    def test_congruence_with_a_negative_form(self):
        line = Congruence(Form({"x": -3}, -2), 4)
        self.check(line, {"x": 2}, True)
        self.check(line, {"x": -2}, True)
        self.check(line, {"x": 1}, False)
        self.check(line, {"x": -1}, False)

    def test_congruence_with_an_even_modulus(self):
        line = Congruence(Form({"x": 1}), 40)
        self.check(line, {"x": 40}, True)
        self.check(line, {"x": -80}, True)
        self.check(line, {"x": 20}, False)
        self.check(line, {"x": 39}, False)

    def test_inequalities(self):
        line = Unlike("x", "y")
        self.check(line, {"x": 1, "y": 2}, True)
        self.check(line, {"y": 2, "x": 1}, True)
        self.check(line, {"x": 2, "y": 2}, False)
        self.check(line, {"x": -2, "y": 2}, True)
        self.check(line, {"x": 0, "y": 0}, False)
        self.check(line, {"x": BIG, "y": 10 ** 30 - 1}, False)
        self.check(line, {"x": BIG, "y": BIG + 1}, True)

    def test_without_names(self):
        self.check(Equation(Form({})), {}, True)
        self.check(Equation(Form({}, 5)), {}, False)
        self.check(Equation(Form({}, 5)), {"x": -5}, False)
        self.check(Congruence(Form({}, 10), 5), {}, True)
        self.check(Congruence(Form({}, -10), 5), {}, True)
        self.check(Congruence(Form({}, -11), 5), {"x": 1}, False)

    def test_other_names_have_no_effect(self):
        self.check(Equation(Form({"x": 1}, -3)), {"a": 9, "x": 3, "z": -9}, True)
        self.check(Congruence(Form({"x": 1}, -3), 7), {"a": 9, "x": 10, "z": -9}, True)
        self.check(Unlike("x", "y"), {"a": 9, "x": 3, "y": 3, "z": -9}, False)

    def test_first_name_that_lacks(self):
        form = Form({"x2": 1, "b": 1, "x10": 1, "a": 1})
        for line in [Equation(form), Congruence(form, 3)]:
            self.assertEqual(self.name(UnknownName, line.holds, {}), "a")
            for size in [1, 2, 3]:
                for there in itertools.permutations([*form.coefficients, "c"], size):
                    values = {name: 3 for name in there}
                    expected = [name for name in ["a", "b", "x10", "x2"] if name not in there][0]
                    self.assertEqual(self.name(UnknownName, line.holds, values), expected)
                    self.assertEqual(list(values.items()), [(name, 3) for name in there])

    def test_first_name_that_lacks_for_an_inequality(self):
        for first, second in [("x", "y"), ("y", "x")]:
            line = Unlike(first, second)
            self.assertEqual(self.name(UnknownName, line.holds, {}), first)
            self.assertEqual(self.name(UnknownName, line.holds, {"z": 1, second: 1}), first)
            self.assertEqual(self.name(UnknownName, line.holds, {first: 1, "z": 1}), second)

    def test_names_that_cancelled_are_not_needed(self):
        form = Form({"x": 1, "y": 1}) - Form({"x": 1, "y": 0})
        self.check(Equation(form), {"y": 0}, True)

    def test_lines_stay_as_they_are(self):
        for line, copied in zip(some_lines(), some_lines()):
            line.holds({"x": 4, "y": -1, "z": 0})
            self.assertEqual(line, copied)
            self.assertEqual(str(line), str(copied))


class Texts(unittest.TestCase):
    def text(self, expected, coefficients, constant=0):
        form = Form(coefficients, constant)
        self.assertEqual(str(Equation(form)), expected)
        self.assertEqual(str(Congruence(form, 5)), f"{expected} (mod 5)")
        self.assertEqual(str(Congruence(form, 40)), f"{expected} (mod 40)")

    def test_constants_have_the_opposite_sign(self):
        self.text("2*x + y = -3", {"x": 2, "y": 1}, 3)
        self.text("2*x + y = 3", {"x": 2, "y": 1}, -3)
        self.text("2*x + y = 0", {"x": 2, "y": 1})
        self.text("20*x = 1000", {"x": 20}, -1000)
        self.text("-20*x = -1000", {"x": -20}, 1000)

    def test_coefficients_of_one(self):
        self.text("x - y = 1", {"x": 1, "y": -1}, -1)
        self.text("-x + y = -1", {"y": 1, "x": -1}, 1)
        self.text("-x - 2*y - z = 0", {"x": -1, "y": -2, "z": -1})

    def test_names_ascend(self):
        self.text("b - x10 + 3*x2 = 0", {"x2": 3, "x10": -1, "b": 1, "a": 0})

    def test_without_names(self):
        self.text("0 = 0", {})
        self.text("0 = -5", {}, 5)
        self.text("0 = 5", {}, -5)

    def test_inequalities(self):
        self.assertEqual(str(Unlike("x", "y")), "x != y")
        self.assertEqual(str(Unlike("y", "x")), "y != x")
        self.assertEqual(str(Unlike("abcdef", "x1")), "abcdef != x1")


class Errors(unittest.TestCase):
    def test_all_are_errors_of_the_program(self):
        for call in [lambda: Equation(Form({}, 1001)), lambda: Congruence(Form({}), 1), lambda: Unlike("x", "x"),
                     lambda: Unlike("mod", "x"), lambda: Unlike("x", "y").holds({})]:
            self.assertRaises(OneshardError, call)


if __name__ == "__main__":
    unittest.main()
