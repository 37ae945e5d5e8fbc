"""Tests of oneshard.forms: points 7 and 9 to 14."""

import itertools
import unittest

from oneshard.errors import BadName, OneshardError, UnknownName
from oneshard.forms import Form

BIG = 10 ** 30 - 1
NUMBERS = [-BIG, -41, -2, -1, 0, 1, 2, 3, 41, BIG]


def some_forms():
    """Return forms with every pattern of present and lacking names."""
    found = []
    for x, y, z in itertools.product([-2, 0, 1, BIG], repeat=3):
        found.append(({"z": z, "x": x, "y": y}, x - 2 * y + 5))
    return found


class Building(unittest.TestCase):
    def bad_key(self, coefficients, constant=0):
        with self.assertRaises(BadName) as caught:
            Form(coefficients, constant)
        return caught.exception.name

    def test_parts(self):
        form = Form({"x": 2, "y": -3}, 7)
        self.assertEqual(form.coefficients, {"x": 2, "y": -3})
        self.assertEqual(form.constant, 7)

    def test_constant_left_out_by_place_and_by_name(self):
        self.assertEqual(Form({"x": 1}).constant, 0)
        self.assertEqual(Form({"x": 1}, -4).constant, -4)
        self.assertEqual(Form({"x": 1}, constant=-4).constant, -4)
        self.assertEqual(Form(coefficients={"x": 1}, constant=9), Form({"x": 1}, 9))

    def test_zero_coefficients_are_left_out(self):
        form = Form({"a": 0, "x": 2, "y": 0, "z": 0}, 3)
        self.assertEqual(form.coefficients, {"x": 2})
        self.assertEqual(Form({"x": 0}).coefficients, {})
        self.assertEqual(form, Form({"x": 2}, 3))

    def test_no_names(self):
        self.assertEqual(Form({}).coefficients, {})
        self.assertEqual(Form({}, 5).constant, 5)

    def test_bad_name(self):
        for key in ["", "X", "1x", "x y", "mod", "abcdefg", "x\n", "x_"]:
            self.assertEqual(self.bad_key({key: 1}), key)

    def test_first_bad_name_in_the_order_of_the_dict(self):
        self.assertEqual(self.bad_key({"y": 1, "mod": 1, "1x": 1, "A": 1}), "mod")
        self.assertEqual(self.bad_key({"y": 1, "1x": 1, "mod": 1, "A": 1}), "1x")
        self.assertEqual(self.bad_key({"Z": 1, "A": 1, "y": 1}), "Z")
        self.assertEqual(self.bad_key({"A": 1, "Z": 1, "y": 1}), "A")

    def test_bad_name_with_coefficient_zero(self):
        self.assertEqual(self.bad_key({"x": 1, "mod": 0, "1x": 1}), "mod")

    def test_bad_name_is_an_error_of_the_program(self):
        with self.assertRaises(OneshardError):
            Form({"mod": 1}, constant=3)

    def test_wrong_dict_stays_as_it_is(self):
        passed = {"y": 0, "mod": 1, "x": 2}
        self.bad_key(passed)
        self.assertEqual(list(passed.items()), [("y", 0), ("mod", 1), ("x", 2)])

    def test_numbers_above_the_bound_raise_nothing(self):
        form = Form({"x": 10 ** 35, "y": -10 ** 400}, 10 ** 31)
        self.assertEqual([form["x"], form["y"], form.constant], [10 ** 35, -10 ** 400, 10 ** 31])


class Parts(unittest.TestCase):
    def test_coefficients_ascend(self):
        names = ["x10", "b", "x2", "a1", "x", "a", "z", "aa"]
        for order in [names, sorted(names), sorted(names, reverse=True)]:
            form = Form({name: 1 for name in order})
            self.assertEqual(list(form.coefficients), ["a", "a1", "aa", "b", "x", "x10", "x2", "z"])

    def test_coefficients_ascend_after_arithmetic(self):
        form = Form({"m": 1, "c": 2}) + Form({"a": 1, "d": 4, "z": 1})
        self.assertEqual(list(form.coefficients.items()), [("a", 1), ("c", 2), ("d", 4), ("m", 1), ("z", 1)])
        form = Form({"m": 1, "c": 2}) - Form({"b": 1, "m": 3})
        self.assertEqual(list(form.coefficients.items()), [("b", -1), ("c", 2), ("m", -2)])
        self.assertEqual(list((-2 * form).coefficients), ["b", "c", "m"])

    def test_coefficients_is_a_dict_and_new_each_time(self):
        form = Form({"x": 1})
        self.assertIs(type(form.coefficients), dict)
        self.assertIsNot(form.coefficients, form.coefficients)

    def test_later_changes_to_the_passed_dict(self):
        passed = {"y": 1, "x": 2}
        form = Form(passed, 3)
        self.assertEqual(list(passed.items()), [("y", 1), ("x", 2)])
        passed["x"] = 50
        passed["z"] = 1
        del passed["y"]
        self.assertEqual(form, Form({"x": 2, "y": 1}, 3))
        self.assertEqual(str(form), "2*x + y + 3")

    def test_changes_to_the_returned_dict(self):
        form = Form({"x": 2, "y": 1}, 3)
        returned = form.coefficients
        returned["x"] = 50
        returned["z"] = 1
        del returned["y"]
        self.assertEqual(form.coefficients, {"x": 2, "y": 1})
        self.assertEqual([form["x"], form["y"], form["z"], len(form)], [2, 1, 0, 2])
        self.assertEqual(str(form), "2*x + y + 3")
        self.assertEqual(form({"x": 1, "y": 1}), 6)

    def test_parts_cannot_be_assigned(self):
        form = Form({"x": 2}, 3)
        with self.assertRaises(AttributeError):
            form.coefficients = {}
        with self.assertRaises(AttributeError):
            form.constant = 4
        self.assertEqual(form, Form({"x": 2}, 3))

    def test_item(self):
        form = Form({"x": 2, "y": -3, "z": 0}, 7)
        self.assertEqual([form["x"], form["y"], form["z"], form["a"]], [2, -3, 0, 0])

    def test_lacking_item_leaves_the_form(self):
        form = Form({"x": 2})
        self.assertEqual(form["a"], 0)
        self.assertEqual([form.coefficients, len(form), "a" in form], [{"x": 2}, 1, False])

    def test_in(self):
        form = Form({"x": 2, "y": -3, "z": 0}, 7)
        self.assertIs("x" in form, True)
        self.assertIs("y" in form, True)
        self.assertIs("z" in form, False)
        self.assertIs("a" in form, False)
        self.assertIs("a" not in form, True)

    def test_len(self):
        self.assertEqual(len(Form({}, 8)), 0)
        self.assertEqual(len(Form({"x": 0})), 0)
        self.assertEqual(len(Form({"x": 2, "y": 0, "z": -1}, 7)), 2)

    def test_equal_exactly_if_parts_are(self):
        form = Form({"x": 2, "y": -3}, 7)
        self.assertIs(form == Form({"y": -3, "x": 2}, 7), True)
        self.assertIs(form != Form({"y": -3, "x": 2}, 7), False)
        self.assertIs(form == Form({"x": 2, "y": -3, "z": 0}, constant=7), True)
        others = [Form({"x": 2, "y": -3}, -7), Form({"x": 2, "y": -3}), Form({"x": 2}, 7), Form({}, 7),
                  Form({"x": 2, "y": 3}, 7), Form({"x": -3, "y": 2}, 7), Form({"x": 2, "z": -3}, 7),
                  Form({"x": 2, "y": -3, "z": 1}, 7)]
        for other in others:
            self.assertIs(form == other, False, str(other))
            self.assertIs(form != other, True, str(other))

    def test_not_equal_to_an_integer(self):
        for number in [0, 1, 5, -5]:
            self.assertIs(Form({}, number) == number, False)
            self.assertIs(number == Form({}, number), False)
            self.assertIs(Form({}, number) != number, True)
        self.assertIs(Form({"x": 1}) == "x", False)
        self.assertIs(Form({}) == {}, False)

    def test_a_form_is_not_iterated_over(self):
        with self.assertRaises(TypeError):
            list(Form({"x": 1}))


class Arithmetic(unittest.TestCase):
    def same(self, form, coefficients, constant):
        self.assertIs(type(form), Form)
        self.assertEqual(list(form.coefficients.items()), sorted(coefficients.items()))
        self.assertEqual(form.constant, constant)

    def test_sum_of_forms(self):
        self.same(Form({"x": 2, "y": -3}, 7) + Form({"y": 5, "z": 1}, -9), {"x": 2, "y": 2, "z": 1}, -2)

    def test_difference_of_forms(self):
        self.same(Form({"x": 2, "y": -3}, 7) - Form({"y": 5, "z": 1}, -9), {"x": 2, "y": -8, "z": -1}, 16)

    def test_integer_on_either_side(self):
        form = Form({"x": 2, "y": -3}, 7)
        for number in NUMBERS:
            self.same(form + number, {"x": 2, "y": -3}, 7 + number)
            self.same(number + form, {"x": 2, "y": -3}, 7 + number)
            self.same(form - number, {"x": 2, "y": -3}, 7 - number)
            self.same(number - form, {"x": -2, "y": 3}, number - 7)

    def test_integer_counts_as_form_without_names(self):
        form = Form({"x": 2}, 7)
        self.assertEqual(form + 4, form + Form({}, 4))
        self.assertEqual(4 - form, Form({}, 4) - form)
        self.assertEqual(form - 4, form - Form({}, 4))

    def test_negative(self):
        self.same(-Form({"x": 2, "y": -3}, 7), {"x": -2, "y": 3}, -7)
        self.same(-Form({}, -7), {}, 7)
        self.same(-Form({}), {}, 0)
        self.same(--Form({"x": 2}, 7), {"x": 2}, 7)

    def test_multiples_on_either_side(self):
        form = Form({"x": 2, "y": -3}, 7)
        for factor in NUMBERS:
            expected = {"x": 2 * factor, "y": -3 * factor} if factor else {}
            self.same(form * factor, expected, 7 * factor)
            self.same(factor * form, expected, 7 * factor)

    def test_multiple_by_zero(self):
        for form in [Form({"x": 2, "y": -3}, 7) * 0, 0 * Form({"x": 2, "y": -3}, 7)]:
            self.same(form, {}, 0)
            self.assertEqual([len(form), "x" in form, form], [0, False, Form({})])

    def test_terms_that_cancel_are_gone(self):
        left = Form({"x": 2, "y": -3}, 7)
        right = Form({"x": -2, "y": -3, "z": 1}, 7)
        self.same(left + right, {"y": -6, "z": 1}, 14)
        self.same(left - right, {"x": 4, "z": -1}, 0)
        self.assertEqual(["x" in left + right, "y" in left - right, len(left - right)], [False, False, 2])
        self.same(left - left, {}, 0)
        self.same(left + -left, {}, 0)

    def test_the_same_form_on_both_sides(self):
        form = Form({"x": 2, "y": -3}, 7)
        self.same(form + form, {"x": 4, "y": -6}, 14)
        self.same(form, {"x": 2, "y": -3}, 7)

    def test_operands_stay_as_they_are(self):
        left = Form({"x": 2, "y": -3}, 7)
        right = Form({"y": 3, "z": 4}, -7)
        results = [left + right, left - right, left + 1, 1 + left, left - 1, 1 - left, -left, left * 3, 3 * left]
        for result in results:
            self.assertIsNot(result, left)
            self.assertIsNot(result, right)
        self.same(left, {"x": 2, "y": -3}, 7)
        self.same(right, {"y": 3, "z": 4}, -7)

    def test_results_are_new_objects(self):
        form = Form({"x": 2}, 7)
        for result in [form + 0, 0 + form, form - 0, form * 1, 1 * form, form + Form({}), form - Form({})]:
            self.assertIsNot(result, form)
            self.assertEqual(result, form)

    def test_assignments_with_operators(self):
        old = form = Form({"x": 2, "y": -3}, 7)
        form += Form({"y": 3, "z": 1}, 1)
        self.same(form, {"x": 2, "z": 1}, 8)
        self.same(old, {"x": 2, "y": -3}, 7)
        second = form
        form -= Form({"z": 1, "x": -1}, 9)
        self.same(form, {"x": 3}, -1)
        self.same(second, {"x": 2, "z": 1}, 8)
        third = form
        form *= -4
        self.same(form, {"x": -12}, 4)
        self.same(third, {"x": 3}, -1)

    def test_assignments_with_integers(self):
        old = form = Form({"x": 2}, 7)
        form += 5
        form -= 1
        form *= 0
        self.same(form, {}, 0)
        self.same(old, {"x": 2}, 7)

    def test_assignment_to_an_integer(self):
        total = 3
        total += Form({"x": 1}, 1)
        self.same(total, {"x": 1}, 4)
        total = 3
        total -= Form({"x": 1}, 1)
        self.same(total, {"x": -1}, 2)
        total = 3
        total *= Form({"x": 1}, 1)
        self.same(total, {"x": 3}, 3)

    def test_all_pairs(self):
        for (first, low), (second, high) in itertools.product(some_forms(), repeat=2):
            total = {name: first[name] + second[name] for name in first if first[name] + second[name]}
            self.same(Form(first, low) + Form(second, high), total, low + high)
            rest = {name: first[name] - second[name] for name in first if first[name] - second[name]}
            self.same(Form(first, low) - Form(second, high), rest, low - high)

    def test_numbers_of_thirty_digits(self):
        form = Form({"x": BIG, "y": -BIG}, BIG)
        self.same(form + form, {"x": 2 * BIG, "y": -2 * BIG}, 2 * BIG)
        self.same(form * BIG, {"x": BIG * BIG, "y": -BIG * BIG}, BIG * BIG)
        self.same(form + Form({"x": 1 - BIG, "y": BIG}, -BIG), {"x": 1}, 0)
        self.assertEqual(form({"x": BIG, "y": BIG - 1}), 2 * BIG)

    def test_numbers_of_any_size(self):
        form = Form({"x": 3, "y": -1}, 2)
        for _ in range(200):
            form = form * 10 ** 30
        self.same(form, {"x": 3 * 10 ** 6000, "y": -10 ** 6000}, 2 * 10 ** 6000)
        self.same(form - form * 10, {"x": -27 * 10 ** 6000, "y": 9 * 10 ** 6000}, -18 * 10 ** 6000)
        self.assertEqual(form({"x": 1, "y": 3}), 2 * 10 ** 6000)

    def test_python_itself_rejects_other_operands(self):
        form = Form({"x": 1})
        for wrong in [lambda: form + "x", lambda: "x" + form, lambda: form - "x", lambda: form * form,
                      lambda: form * "x", lambda: form + None]:
            self.assertRaises(TypeError, wrong)


class Values(unittest.TestCase):
    def lacking(self, form, values):
        with self.assertRaises(UnknownName) as caught:
            form(values)
        return caught.exception.name

    def test_values(self):
        form = Form({"x": 2, "y": -3}, 7)
        self.assertEqual(form({"x": 5, "y": 4}), 5)
        self.assertEqual(form({"y": 5, "x": 4}), 0)
        self.assertEqual(form({"x": 0, "y": 0}), 7)
        self.assertEqual(form({"x": -1, "y": -2}), 11)
        self.assertEqual(form({"x": BIG, "y": BIG}), 7 - BIG)
        self.assertEqual(form(values={"x": 1, "y": 1}), 6)

    def test_without_names(self):
        self.assertEqual(Form({}, -4)({}), -4)
        self.assertEqual(Form({}, -4)({"x": 3}), -4)
        self.assertEqual(Form({"x": 0})({}), 0)

    def test_first_lacking_name_in_ascending_order(self):
        names = ["a", "b", "x10", "x2"]
        for order in itertools.permutations(names):
            form = Form({name: 1 for name in order})
            self.assertEqual(self.lacking(form, {}), "a")
            for there in itertools.permutations(names, 2):
                expected = [name for name in names if name not in there][0]
                self.assertEqual(self.lacking(form, {name: 1 for name in there}), expected)

    def test_lacking_name_after_a_sum(self):
        form = Form({"y": 1, "z": 1}) + Form({"x": 1})
        self.assertEqual(self.lacking(form, {"a": 1}), "x")
        self.assertEqual(self.lacking(form, {"x": 1, "z": 1}), "y")

    def test_names_that_cancelled_are_not_needed(self):
        form = Form({"x": 1, "y": 1}) - Form({"x": 1})
        self.assertEqual(form({"y": 8}), 8)

    def test_other_names_have_no_effect(self):
        form = Form({"x": 2}, 1)
        self.assertEqual(form({"a": 100, "x": 3, "z": -100}), 7)
        self.assertEqual(self.lacking(form, {"a": 1, "z": 1}), "x")

    def test_dict_stays_as_it_is(self):
        form = Form({"x": 2, "y": 1})
        values = {"z": 9, "y": 4, "x": 3}
        self.assertEqual(form(values), 10)
        self.assertEqual(list(values.items()), [("z", 9), ("y", 4), ("x", 3)])
        values = {"z": 9, "y": 4}
        self.assertEqual(self.lacking(form, values), "x")
        self.assertEqual(list(values.items()), [("z", 9), ("y", 4)])

    def test_dict_changed_between_two_calls(self):
        form = Form({"x": 2, "y": 1})
        values = {"x": 3, "y": 4}
        self.assertEqual(form(values), 10)
        values["x"] = 5
        self.assertEqual(form(values), 14)
        del values["y"]
        self.assertEqual(self.lacking(form, values), "y")
        values["y"] = 0
        self.assertEqual(form(values), 10)

    def test_form_stays_as_it_is(self):
        form = Form({"x": 2, "y": 1}, 3)
        form({"x": 3, "y": 4, "z": 5})
        self.lacking(form, {"x": 3})
        self.assertEqual(form, Form({"x": 2, "y": 1}, 3))

    def test_values_follow_the_arithmetic(self):
        values = {"x": 4, "y": -7, "z": BIG}
        for (first, low), (second, high) in itertools.product(some_forms(), repeat=2):
            left, right = Form(first, low), Form(second, high)
            self.assertEqual((left + right)(values), left(values) + right(values))
            self.assertEqual((left - 3 * right)(values), left(values) - 3 * right(values))


class Texts(unittest.TestCase):
    def text(self, expected, coefficients, constant=0):
        self.assertEqual(str(Form(coefficients, constant)), expected)

    def test_first_term(self):
        self.text("2*x", {"x": 2})
        self.text("-2*x", {"x": -2})
        self.text("x", {"x": 1})
        self.text("-x", {"x": -1})

    def test_later_terms(self):
        self.text("x + y", {"x": 1, "y": 1})
        self.text("x - y", {"x": 1, "y": -1})
        self.text("-x + 2*y - 3*z", {"x": -1, "y": 2, "z": -3})
        self.text("-x - y - z", {"x": -1, "y": -1, "z": -1})
        self.text("10*x + 11*y - 12*z", {"x": 10, "y": 11, "z": -12})

    def test_terms_ascend(self):
        self.text("a - x + 4*x10 + x2", {"x2": 1, "x10": 4, "x": -1, "a": 1})

    def test_constant_behind_terms(self):
        self.text("x + 5", {"x": 1}, 5)
        self.text("x - 5", {"x": 1}, -5)
        self.text("-x - 5", {"x": -1}, -5)
        self.text("-x + 1", {"x": -1}, 1)
        self.text("-3*x + y - 1", {"y": 1, "x": -3}, -1)
        self.text("x", {"x": 1}, 0)

    def test_without_names(self):
        self.text("0", {})
        self.text("0", {"x": 0})
        self.text("5", {}, 5)
        self.text("-5", {}, -5)
        self.text("1", {}, 1)
        self.text("-1", {}, -1)

    def test_reckoned_forms(self):
        form = Form({"x": 1, "y": 1}, 2)
        self.assertEqual(str(form - form), "0")
        self.assertEqual(str(form * 0), "0")
        self.assertEqual(str(form - Form({"x": 1})), "y + 2")
        self.assertEqual(str(form - Form({"x": 2}, 2)), "-x + y")
        self.assertEqual(str(-form), "-x - y - 2")

    def test_zeros_inside_of_numbers(self):
        for power in [1, 29, 30, 63, 64, 65, 128, 129]:
            number = 10 ** power
            self.text(f"{number}", {}, number)
            self.text(f"-{number - 1}*x + {number + 1}", {"x": 1 - number}, number + 1)

    def test_numbers_of_any_size(self):
        zeros = "0" * 6000
        number = 10 ** 6000
        self.text(f"1{zeros}", {}, number)
        self.text(f"-1{zeros}", {}, -number)
        nines = "9" * 6000
        self.text(f"-{nines}*x + 2{zeros}*y - 7{zeros}", {"x": 1 - number, "y": 2 * number}, -7 * number)
        sevens = "7" * 5001
        self.text(f"{sevens}", {}, 7 * (10 ** 5001 - 1) // 9)


class Example(unittest.TestCase):
    def test_example(self):
        form = 3 - 2 * Form({"y": 1, "x": -1}, 1)
        self.assertEqual([str(form), form["x"], form({"x": 5, "y": 4})], ["2*x - 2*y + 1", 2, 3])


if __name__ == "__main__":
    unittest.main()
