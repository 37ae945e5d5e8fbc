"""Tests of oneshard.families: point 57."""

import copy
import math
import unittest
from fractions import Fraction

from samples import patterns_of, random_patterns

from oneshard.checking import check_paper
from oneshard.families import family_forms
from oneshard.forms import Form
from oneshard.patterns import Pattern
from oneshard.verdicts import decide

SUM = Pattern.read("x y z\nx + y = z + 3\nx != y")
FREE = Pattern.read("a b c d e f\na != b\ne != f")


def expected_coefficient(pattern, paper, name, number):
    """Return the coefficient of the number with this place, counted from 1, by the words of point 57."""
    _, _, steps, apart = paper
    lead = math.lcm(*[d for _, triples in steps for _, _, d in triples])
    if number == len(steps) + 1:
        return apart[pattern.names.index(name)]
    step = next(place for place, (group, _) in enumerate(steps, 1) if name in group)
    if number == step:
        return lead
    if number < step:
        return 0
    fraction = sum(Fraction(n, d) for other, n, d in steps[number - 1][1] if other == name)
    assert (lead * fraction).denominator == 1
    return -int(lead * fraction)


class Forms(unittest.TestCase):
    def check(self, pattern, paper):
        """Check the forms of a family by what point 57 says of them, and return them."""
        self.assertIs(check_paper(pattern, paper), True)
        before = copy.deepcopy((str(pattern), paper))
        forms = family_forms(pattern, paper)
        self.assertEqual((str(pattern), paper), before)
        self.assertIs(type(forms), dict)
        self.assertEqual(list(forms), list(pattern.names))
        unlike = [line for line in pattern.lines if line.KIND == "inequality"]
        numbers = range(1, len(paper[2]) + 1 + bool(unlike))
        for name, form in forms.items():
            self.assertIs(type(form), Form)
            expected = {f"y{number}": expected_coefficient(pattern, paper, name, number) for number in numbers}
            self.assertEqual(form, Form(expected, paper[1]), f"{pattern}: {paper}, {name}")
        for line in pattern.lines:
            if line.KIND == "equation":
                total = Form({}, line.form.constant)
                for name, coefficient in line.form.coefficients.items():
                    total = total + forms[name] * coefficient
                self.assertEqual(total, Form({}))
        for line in unlike:
            self.assertNotEqual(forms[line.first], forms[line.second])
        return {name: str(form) for name, form in forms.items()}

    def test_papers_of_verdicts(self):
        patterns = [*patterns_of("family"), *random_patterns(57, 800)]
        papers = [(pattern, decide(pattern).paper) for pattern in patterns]
        checked = [self.check(pattern, paper) for pattern, paper in papers if paper[0] == "family"]
        self.assertGreater(len(checked), 60)

    def test_one_step(self):
        self.assertEqual(self.check(Pattern.read("x y\nx = y"), ("family", 4, ((("y", "x"), ()),), (7, 7))),
                         {"x": "y1 + 4", "y": "y1 + 4"})

    def test_last_number(self):
        self.assertEqual(self.check(Pattern.read("x y\nx != y"), ("family", -4, ((("y", "x"), ()),), (3, -2))),
                         {"x": "y1 + 3*y2 - 4", "y": "y1 - 2*y2 - 4"})
        self.assertEqual(self.check(Pattern.read("x y\nx != y"), ("family", 0, ((("y", "x"), ()),), (0, 1))),
                         {"x": "y1", "y": "y1 + y2"})

    def test_steps(self):
        pattern = Pattern.read("x y z u v\nx - z + 2*u = 8\nu - v + 3*y = 12")
        steps = ((("x", "z"), ()), (("u", "v"), (("x", 2, 1),)), (("y",), (("x", -6, 1), ("u", 3, 1))))
        self.assertEqual(self.check(pattern, ("family", 4, steps, (0, 0, 0, 0, 0))),
                         {"x": "y1 - 2*y2 + 6*y3 + 4", "y": "y3 + 4", "z": "y1 + 4", "u": "y2 - 3*y3 + 4",
                          "v": "y2 + 4"})

    def test_lead(self):
        for triples, lead, first, second in [
                ((("x", 1, 2), ("y", -2, 3)), 6, 3, -4), ((("y", 1, 4), ("x", 3, 6)), 12, 6, 3),
                ((("x", 2, 2),), 2, 2, 0), ((("x", 0, 7),), 7, 0, 0), ((("y", -4, 6), ("x", 0, 9)), 18, 0, -12)]:
            paper = ("family", 0, ((("x", "y"), ()), (("z",), triples)), (0, 0, 0))
            forms = family_forms(Pattern(["x", "y", "z"]), paper)
            self.assertEqual([forms["x"], forms["y"], forms["z"]],
                             [Form({"y1": lead, "y2": -first}), Form({"y1": lead, "y2": -second}), Form({"y2": lead})])
            self.check(Pattern(["x", "y", "z"]), paper)

    def test_denominators_of_several_steps(self):
        steps = ((("a",), ()), (("b",), (("a", 1, 4),)), (("c", "d"), (("b", 5, 6), ("a", 2, 10))), (("e",), ()),
                 (("f",), (("c", -7, 1), ("d", 0, 3), ("a", 4, 15))))
        forms = self.check(FREE, ("family", -50, steps, (1, 0, 0, 0, 5, 2)))
        self.assertEqual(forms, {
            "a": "60*y1 - 15*y2 - 12*y3 - 16*y5 + y6 - 50", "b": "60*y2 - 50*y3 - 50", "c": "60*y3 + 420*y5 - 50",
            "d": "60*y3 - 50", "e": "60*y4 + 5*y6 - 50", "f": "60*y5 + 2*y6 - 50"})

    def test_six_steps(self):
        names = ["f", "d", "b", "a", "c", "e"]
        steps = tuple(((name,), tuple((other, place, 2) for other in names[:place][::-1]))
                      for place, name in enumerate(names))
        self.check(FREE, ("family", 0, steps, (1, 2, 3, 4, 5, 6)))
        self.check(Pattern(["a", "b", "c", "d", "e", "f"]), ("family", 9, steps, (1, 2, 3, 4, 5, 6)))

    def test_fractions_not_in_lowest_terms(self):
        for n, d in [(1, 1), (2, 2), (-5, -5), (6, 6)]:
            if d >= 1:
                steps = ((("z", "x"), ()), (("y",), (("x", n, d),)))
                self.check(SUM, ("family", 3, steps, (1, 0, 1)))
        steps = ((("x", "z"), ()), (("y",), (("z", 1, 3), ("x", 8, 6))))
        self.assertEqual(self.check(SUM, ("family", 3, steps, (1, 0, 1))),
                         {"x": "6*y1 - 8*y2 + y3 + 3", "y": "6*y2 + 3", "z": "6*y1 - 2*y2 + y3 + 3"})

    def test_order_of_the_mixture(self):
        for triples in [(("z", 1, 3), ("x", 4, 3)), (("x", 4, 3), ("z", 1, 3))]:
            steps = ((("x", "z"), ()), (("y",), triples))
            self.assertEqual(self.check(SUM, ("family", 3, steps, (1, 0, 1))),
                             {"x": "3*y1 - 4*y2 + y3 + 3", "y": "3*y2 + 3", "z": "3*y1 - y2 + y3 + 3"})

    def test_no_inequality(self):
        pattern = Pattern.read("x y z\nx + y = z - 3\nx = 0 (mod 3)")
        steps = ((("x", "z"), ()), (("y",), (("x", 1, 1),)))
        self.assertEqual(self.check(pattern, ("family", -3, steps, (1, 4, 5))),
                         {"x": "y1 - y2 - 3", "y": "y2 - 3", "z": "y1 - 3"})

    def test_order_of_names(self):
        pattern = Pattern(["z", "a", "m"])
        steps = ((("m",), ()), (("a",), ()), (("z",), ()))
        self.assertEqual(list(self.check(pattern, ("family", 0, steps, (0, 0, 0))).items()),
                         [("z", "y3"), ("a", "y2"), ("m", "y1")])

    def test_names_like_those_of_numbers(self):
        pattern = Pattern.read("y2 y1\ny1 != y2")
        self.assertEqual(self.check(pattern, ("family", 1, ((("y1",), ()), (("y2",), ())), (5, 2))),
                         {"y2": "y2 + 5*y3 + 1", "y1": "y1 + 2*y3 + 1"})

    def test_results_are_new(self):
        paper = decide(SUM).paper
        forms = family_forms(SUM, paper)
        forms.clear()
        self.assertEqual(len(family_forms(SUM, paper)), 3)
        self.assertEqual(len(family_forms(paper=paper, pattern=SUM)), 3)

    def test_bounds(self):
        pattern = Pattern.read("a b c d e f\n20*a - 20*b + 19*c = -1000 + 19*d + 20*e\na != b\na != c\na != d\na != e")
        self.check(pattern, decide(pattern).paper)


class Example(unittest.TestCase):
    def test_forms(self):
        steps = ((("x", "z"), ()), (("y",), (("x", 1, 1),)))
        forms = family_forms(SUM, ("family", 3, steps, (1, 0, 1)))
        self.assertEqual([str(forms[name]) for name in ["x", "y", "z"]], ["y1 - y2 + y3 + 3", "y2 + 3", "y1 + y3 + 3"])


if __name__ == "__main__":
    unittest.main()
