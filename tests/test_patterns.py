"""Tests of oneshard.patterns without reading: points 4, 7, 18 to 21."""

import itertools
import unittest

from oneshard.errors import BadCount, BadName, DuplicateName, OutOfRange, UnknownName
from oneshard.forms import Form
from oneshard.lines import Congruence, Equation, Unlike
from oneshard.patterns import Pattern

NAMES = ["a", "b", "c", "d", "e", "f", "g", "h"]
SUM = Equation(Form({"x": 1, "y": 1}, -5))
EVEN = Congruence(Form({"x": 1}), 2)
UNLIKE = Unlike("y", "x")
BIG = 10 ** 30 - 1


def name_line(name):
    return Equation(Form({name: 1}))


class Raising(unittest.TestCase):
    def attribute(self, error, word, call, *arguments):
        with self.assertRaises(error) as caught:
            call(*arguments)
        self.assertIs(type(caught.exception), error)
        return getattr(caught.exception, word)

    def count(self, call, *arguments):
        return self.attribute(BadCount, "count", call, *arguments)

    def bad(self, call, *arguments):
        return self.attribute(BadName, "name", call, *arguments)

    def double(self, call, *arguments):
        return self.attribute(DuplicateName, "name", call, *arguments)

    def unknown(self, call, *arguments):
        return self.attribute(UnknownName, "name", call, *arguments)

    def value(self, call, *arguments):
        return self.attribute(OutOfRange, "value", call, *arguments)


class Building(Raising):
    def test_limits(self):
        self.assertEqual([Pattern.MOST_NAMES, Pattern.MOST_LINES], [6, 5])
        pattern = Pattern(["x"])
        self.assertEqual([pattern.MOST_NAMES, pattern.MOST_LINES], [6, 5])

    def test_right_counts_of_names(self):
        for count in range(1, 7):
            self.assertEqual(Pattern(NAMES[:count]).names, tuple(NAMES[:count]))
            self.assertEqual(Pattern(tuple(NAMES[:count])).names, tuple(NAMES[:count]))

    def test_wrong_counts_of_names(self):
        for kind in [list, tuple]:
            for count in [0, 7, 8]:
                self.assertEqual(self.count(Pattern, kind(NAMES[:count])), count)
            self.assertEqual(self.count(Pattern, kind(["x"] * 1000)), 1000)

    def test_count_of_names_comes_first(self):
        wrong = [name_line("q")] * 9
        self.assertEqual(self.count(Pattern, [], wrong), 0)
        self.assertEqual(self.count(Pattern, ["mod", "x", "x", "y", "z", "a", "b"], wrong), 7)

    def test_wrong_names(self):
        for wrong in ["", "abcdefg", "mod", "x y", "X", "x\n", "1x"]:
            self.assertEqual(self.bad(Pattern, [wrong]), wrong)
            self.assertEqual(self.bad(Pattern, ("x", wrong, "y")), wrong)
            self.assertEqual(self.bad(Pattern, ["x", "y", wrong]), wrong)
        self.assertEqual(self.bad(Pattern, ["x", "Y", "", "x"]), "Y")
        self.assertEqual(self.bad(Pattern, ["mod", "mod"]), "mod")

    def test_double_names(self):
        self.assertEqual(self.double(Pattern, ["x", "x"]), "x")
        self.assertEqual(self.double(Pattern, ("x", "y", "z", "x")), "x")
        self.assertEqual(self.double(Pattern, ["x", "y", "y", "x"]), "y")
        self.assertEqual(self.double(Pattern, ["a", "b", "c", "d", "e", "a"]), "a")

    def test_wrong_name_before_and_behind_a_double_one(self):
        self.assertEqual(self.bad(Pattern, ["x", "X", "x"]), "X")
        self.assertEqual(self.double(Pattern, ["x", "x", "X"]), "x")

    def test_names_come_before_lines(self):
        wrong = [name_line("q")] * 6
        self.assertEqual(self.bad(Pattern, ["x", "X"], wrong), "X")
        self.assertEqual(self.double(Pattern, ["x", "x"], wrong), "x")

    def test_right_counts_of_lines(self):
        for count in range(6):
            for kind in [list, tuple]:
                self.assertEqual(Pattern(["y", "x"], kind([SUM] * count)).lines, (SUM,) * count)

    def test_wrong_counts_of_lines(self):
        for count in [6, 7, 100]:
            for kind in [list, tuple]:
                self.assertEqual(self.count(Pattern, ["x", "y"], kind([SUM] * count)), count)

    def test_count_of_lines_comes_before_strange_names(self):
        self.assertEqual(self.count(Pattern, ["x"], [name_line("q")] * 6), 6)

    def test_strange_names(self):
        for line in [SUM, Congruence(SUM.form, 7), Unlike("y", "x"), Unlike("x", "y")]:
            self.assertEqual(self.unknown(Pattern, ["x"], [line]), "y")
            self.assertEqual(self.unknown(Pattern, ("y",), (line,)), "x")
            self.assertEqual(self.unknown(Pattern, ("y", "z"), (name_line("z"), line)), "x")

    def test_first_strange_name_of_a_line(self):
        form = Form({"z": 1, "b": 1, "x": 1})
        self.assertEqual(self.unknown(Pattern, ["x"], [Equation(form)]), "b")
        self.assertEqual(self.unknown(Pattern, ["x", "b"], [Congruence(form, 3)]), "z")
        self.assertEqual(self.unknown(Pattern, ["x"], [Unlike("z", "b")]), "z")
        self.assertEqual(self.unknown(Pattern, ["x"], [Unlike("b", "z")]), "b")

    def test_first_line_with_a_strange_name(self):
        lines = [SUM, name_line("z"), name_line("a"), Unlike("b", "x")]
        self.assertEqual(self.unknown(Pattern, ["x", "y"], lines), "z")
        self.assertEqual(self.unknown(Pattern, ["x", "y", "z"], lines), "a")
        self.assertEqual(self.unknown(Pattern, ["x", "y", "a", "z"], lines), "b")

    def test_a_line_may_occur_twice(self):
        self.assertEqual(Pattern(["x", "y"], [SUM, SUM]).lines, (SUM, SUM))

    def test_lines_without_names(self):
        lines = [Equation(Form({}, 4)), Congruence(Form({}), 3)]
        self.assertEqual(Pattern(["x"], lines).lines, tuple(lines))

    def test_arguments_by_name(self):
        self.assertEqual(Pattern(lines=[SUM], names=["x", "y"]), Pattern(["x", "y"], (SUM,)))


class Parts(Raising):
    def test_order_is_kept(self):
        pattern = Pattern(["z", "x", "b", "y"], [UNLIKE, SUM, EVEN])
        self.assertIs(type(pattern.names), tuple)
        self.assertIs(type(pattern.lines), tuple)
        self.assertEqual(pattern.names, ("z", "x", "b", "y"))
        self.assertEqual(pattern.lines, (UNLIKE, SUM, EVEN))

    def test_no_lines(self):
        self.assertEqual(Pattern(["x"]).lines, ())
        self.assertEqual(Pattern(["x"], []).lines, ())

    def test_later_changes_to_the_passed_lists(self):
        names, lines = ["x", "y"], [SUM, EVEN]
        pattern = Pattern(names, lines)
        self.assertEqual([names, lines], [["x", "y"], [SUM, EVEN]])
        names[0] = "z"
        names.append("a")
        lines[0] = EVEN
        del lines[1]
        self.assertEqual(pattern.names, ("x", "y"))
        self.assertEqual(pattern.lines, (SUM, EVEN))
        self.assertEqual([len(pattern), "z" in pattern, "x" in pattern], [2, False, True])
        self.assertEqual(str(pattern), "x y\nx + y = 5\nx = 0 (mod 2)")

    def test_lists_stay_as_they_are_after_an_error(self):
        names, lines = ["x", "y"], [SUM, name_line("z")]
        self.assertEqual(self.unknown(Pattern, names, lines), "z")
        self.assertEqual([names, lines], [["x", "y"], [SUM, name_line("z")]])

    def test_properties_cannot_be_assigned(self):
        pattern = Pattern(["x"])
        for word in ["names", "lines"]:
            with self.assertRaises(AttributeError):
                setattr(pattern, word, ())
        self.assertEqual(pattern, Pattern(["x"]))

    def test_len(self):
        for count in range(6):
            self.assertEqual(len(Pattern(["x", "y"], [SUM] * count)), count)

    def test_in(self):
        pattern = Pattern(["x1", "y"], [Equation(Form({"y": 1}))])
        self.assertIs("x1" in pattern, True)
        self.assertIs("y" in pattern, True)
        for name in ["x", "1", "z", "", "x1 y", "mod"]:
            self.assertIs(name in pattern, False)
            self.assertIs(name not in pattern, True)

    def test_equality(self):
        def build():
            return [Pattern(["x", "y"], [SUM, EVEN]), Pattern(["y", "x"], [SUM, EVEN]),
                    Pattern(["x", "y"], [EVEN, SUM]), Pattern(["x", "y"], [SUM]), Pattern(["x", "y"]),
                    Pattern(["x", "y"], [SUM, EVEN, EVEN]), Pattern(["x", "y", "z"], [SUM, EVEN]),
                    Pattern(["x", "y"], [SUM, Equation(EVEN.form)]), Pattern(["x", "y"], [UNLIKE]),
                    Pattern(["x", "y"], [Unlike("x", "y")]), Pattern(["x"])]
        for (at, pattern), (place, other) in itertools.product(enumerate(build()), enumerate(build())):
            self.assertIs(pattern == other, at == place, f"{pattern} and {other}")
            self.assertIs(pattern != other, at != place)

    def test_lists_and_tuples_give_equal_patterns(self):
        self.assertEqual(Pattern(["x", "y"], [SUM]), Pattern(("x", "y"), (SUM,)))
        self.assertEqual(Pattern(["x"], []), Pattern(["x"]))

    def test_not_equal_to_other_things(self):
        pattern = Pattern(["x", "y"], [SUM])
        for other in [0, None, str(pattern), ("x", "y"), SUM, Form({})]:
            self.assertIs(pattern == other, False)
            self.assertIs(other == pattern, False)


class Joining(Raising):
    def test_names_and_lines(self):
        first = Pattern(["y", "x"], [SUM, UNLIKE])
        second = Pattern(["b", "a"], [Unlike("a", "b"), name_line("a")])
        joined = first & second
        self.assertEqual(joined.names, ("y", "x", "b", "a"))
        self.assertEqual(joined.lines, (SUM, UNLIKE, Unlike("a", "b"), name_line("a")))
        self.assertEqual((second & first).names, ("b", "a", "y", "x"))
        self.assertEqual((second & first).lines, (Unlike("a", "b"), name_line("a"), SUM, UNLIKE))

    def test_old_patterns_stay(self):
        first, second = Pattern(["y", "x"], [SUM]), Pattern(["a"], [name_line("a")])
        joined = first & second
        self.assertEqual(first, Pattern(["y", "x"], [SUM]))
        self.assertEqual(second, Pattern(["a"], [name_line("a")]))
        self.assertIsNot(joined, first)
        self.double(lambda: first & first)
        self.assertEqual(first, Pattern(["y", "x"], [SUM]))

    def test_assignment(self):
        first = pattern = Pattern(["x", "y"], [SUM])
        pattern &= Pattern(["a"])
        self.assertEqual(pattern, Pattern(["x", "y", "a"], [SUM]))
        self.assertEqual(first, Pattern(["x", "y"], [SUM]))

    def test_without_lines(self):
        self.assertEqual(Pattern(["x"]) & Pattern(["y"]), Pattern(["x", "y"]))

    def test_six_names_and_five_lines_are_right(self):
        joined = Pattern(["x", "y", "z"], [SUM] * 3) & Pattern(["a", "b", "c"], [name_line("b")] * 2)
        self.assertEqual([len(joined.names), len(joined)], [6, 5])

    def test_a_name_that_both_have(self):
        first = Pattern(["x", "y"], [SUM])
        self.assertEqual(self.double(lambda: first & first), "x")
        self.assertEqual(self.double(lambda: first & Pattern(["a", "y", "x"])), "y")
        self.assertEqual(self.double(lambda: Pattern(["a"], [name_line("a")] * 5) & Pattern(["a"], [name_line("a")])),
                         "a")

    def test_too_many_names(self):
        first = Pattern(["a", "b", "c", "x"])
        self.assertEqual(self.count(lambda: first & Pattern(["d", "e", "f"])), 7)
        self.assertEqual(self.count(lambda: first & Pattern(["d", "e", "x"])), 7)
        self.assertEqual(self.count(lambda: first & first), 8)
        self.assertEqual(self.double(lambda: first & Pattern(["d", "x"])), "x")

    def test_too_many_lines(self):
        first = Pattern(["x", "y"], [SUM] * 3)
        self.assertEqual(self.count(lambda: first & Pattern(["a"], [name_line("a")] * 3)), 6)
        self.assertEqual(self.count(lambda: first & Pattern(["a"], [name_line("a")] * 5)), 8)


class Without(Raising):
    def setUp(self):
        self.lines = [Equation(Form({"x": 1}, constant)) for constant in range(5)]
        self.pattern = Pattern(["y", "x"], self.lines)

    def test_every_set_of_numbers(self):
        for size in range(6):
            for numbers in itertools.permutations(range(5), size):
                expected = [line for number, line in enumerate(self.lines) if number not in numbers]
                self.assertEqual(self.pattern.without(list(numbers)), Pattern(["y", "x"], expected))
                self.assertEqual(self.pattern.without(numbers), Pattern(["y", "x"], expected))
        self.assertEqual(self.pattern, Pattern(["y", "x"], self.lines))

    def test_no_number(self):
        self.assertEqual(self.pattern.without([]), self.pattern)
        self.assertEqual(self.pattern.without(()), self.pattern)
        self.assertEqual(Pattern(["x"]).without([]), Pattern(["x"]))

    def test_a_number_twice(self):
        expected = self.pattern.without([1, 3])
        self.assertEqual(self.pattern.without([3, 1, 3, 1, 1]), expected)
        self.assertEqual(self.pattern.without((1, 3, 3)), expected)

    def test_a_line_that_occurs_twice_is_taken_by_its_number(self):
        pattern = Pattern(["x", "y"], [SUM, EVEN, SUM])
        self.assertEqual(pattern.without([0]), Pattern(["x", "y"], [EVEN, SUM]))
        self.assertEqual(pattern.without([2]), Pattern(["x", "y"], [SUM, EVEN]))

    def test_the_list_stays(self):
        numbers = [3, 1, 3]
        self.pattern.without(numbers)
        self.assertEqual(numbers, [3, 1, 3])

    def test_wrong_numbers(self):
        for number in [-1, 5, -5, 6, 1000, BIG, -BIG]:
            self.assertEqual(self.value(self.pattern.without, [number]), number)
            self.assertEqual(self.value(self.pattern.without, (0, 4, number)), number)
        self.assertEqual(self.value(Pattern(["x"]).without, [0]), 0)
        self.assertEqual(self.value(Pattern(["x"], [EVEN]).without, [0, 1]), 1)

    def test_first_wrong_number(self):
        self.assertEqual(self.value(self.pattern.without, [4, 7, -1, 5]), 7)
        self.assertEqual(self.value(self.pattern.without, [-1, 7]), -1)
        self.assertEqual(self.pattern, Pattern(["y", "x"], self.lines))


class Holding(unittest.TestCase):
    def check(self, pattern, values, expected):
        before = list(values.items())
        self.assertIs(pattern.holds(values), expected, f"{pattern} for {values}")
        self.assertEqual(list(values.items()), before)

    def test_solutions(self):
        pattern = Pattern(["x", "y"], [SUM, EVEN, UNLIKE])
        for x, y in itertools.product(range(-3, 8), repeat=2):
            expected = x >= 1 and y >= 1 and x + y == 5 and x in (2, 4, 6)
            self.check(pattern, {"x": x, "y": y}, expected)
            self.check(pattern, {"y": y, "x": x}, expected)

    def test_each_line_that_fails(self):
        lines = [SUM, Congruence(Form({"x": 1, "y": -1}), 2), UNLIKE]
        for order in itertools.permutations(lines):
            pattern = Pattern(["x", "y"], order)
            self.check(pattern, {"x": 2, "y": 3}, False)
            self.check(pattern, {"x": 2, "y": 4}, False)
            self.check(pattern, {"x": 3, "y": 3}, False)
        self.check(Pattern(["x", "y"], lines[1:]), {"x": 2, "y": 4}, True)

    def test_records_from_one_on(self):
        pattern = Pattern(["x", "y"])
        self.check(pattern, {"x": 1, "y": 1}, True)
        self.check(pattern, {"x": BIG, "y": 1}, True)
        self.check(pattern, {"x": 0, "y": 1}, False)
        self.check(pattern, {"x": 1, "y": 0}, False)
        self.check(pattern, {"x": 1, "y": -1}, False)
        self.check(pattern, {"x": -BIG, "y": 1}, False)

    def test_zero_and_negative_records_fail_though_lines_hold(self):
        pattern = Pattern(["x", "y"], [SUM])
        self.check(pattern, {"x": 5, "y": 0}, False)
        self.check(pattern, {"x": 6, "y": -1}, False)
        self.check(pattern, {"x": 4, "y": 1}, True)

    def test_keys_are_exactly_the_names(self):
        for pattern in [Pattern(["x", "y"]), Pattern(["x", "y"], [SUM]), Pattern(["x", "y"], [UNLIKE])]:
            self.check(pattern, {"x": 2, "y": 3}, True)
            self.check(pattern, {}, False)
            self.check(pattern, {"x": 2}, False)
            self.check(pattern, {"y": 3}, False)
            self.check(pattern, {"x": 2, "y": 3, "z": 4}, False)
            self.check(pattern, {"x": 2, "z": 3}, False)
            self.check(pattern, {"z": 2, "y": 3}, False)
            self.check(pattern, {"x": 2, "y": 3, "z": 4, "a": 1}, False)

    def test_two_names_may_have_one_record(self):
        self.check(Pattern(["x", "y"]), {"x": 7, "y": 7}, True)
        self.check(Pattern(["x", "y"], [UNLIKE]), {"x": 7, "y": 7}, False)

    def test_large_records(self):
        pattern = Pattern(["x", "y"], [Equation(Form({"x": 2, "y": -1}, 1))])
        self.check(pattern, {"x": BIG, "y": 2 * BIG + 1}, True)
        self.check(pattern, {"x": BIG, "y": 2 * BIG}, False)

    def test_lines_without_names(self):
        self.check(Pattern(["x"], [Equation(Form({}, 1))]), {"x": 1}, False)
        self.check(Pattern(["x"], [Congruence(Form({}, 8), 4)]), {"x": 1}, True)


class Texts(unittest.TestCase):
    def test_rows(self):
        self.assertEqual(str(Pattern(["y", "x"], [UNLIKE, SUM, EVEN])),
                         "y x\ny != x\nx + y = 5\nx = 0 (mod 2)")

    def test_without_lines(self):
        self.assertEqual(str(Pattern(["b", "a", "x10"])), "b a x10")
        self.assertEqual(str(Pattern(["x"])), "x")

    def test_lines_without_names(self):
        self.assertEqual(str(Pattern(["x"], [Equation(Form({}, 5)), Congruence(Form({}), 3)])),
                         "x\n0 = -5\n0 = 0 (mod 3)")


if __name__ == "__main__":
    unittest.main()
