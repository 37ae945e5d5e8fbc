"""Tests of oneshard.staircases: points 2, 7 to 9 and 30 to 33."""

import copy
import itertools
import math
import random
import unittest
from fractions import Fraction

from oneshard.elimination import mixture
from oneshard.errors import BadLength
from oneshard.staircases import check_steps, climb, reached


def right_steps(columns, steps):
    """Decide whether steps are right by the words of point 30, with Python's own fractions."""
    earlier = set()
    for group, triples in steps:
        numbers = [number for number, _, _ in triples]
        if not group or len(set(group)) < len(group) or len(set(numbers)) < len(numbers):
            return False
        if not set(group) <= set(range(len(columns))) - earlier or not set(numbers) <= earlier:
            return False
        if any(d < 1 for _, _, d in triples):
            return False
        for place in range(len(columns[0])):
            total = sum((Fraction(n, d) * columns[number][place] for number, n, d in triples), Fraction(0))
            if sum(columns[number][place] for number in group) != total:
                return False
        earlier |= set(group)
    return True


def groups_that_follow(columns, earlier):
    """Return every group that can be the next one."""
    others = [number for number in range(len(columns)) if number not in earlier]
    found = []
    for size in range(1, len(others) + 1):
        for group in itertools.combinations(others, size):
            total = [sum(columns[number][place] for number in group) for place in range(len(columns[0]))]
            if mixture([columns[number] for number in sorted(earlier)], total)[0] == "mixture":
                found.append(group)
    return found


def reachable(columns):
    """Return the numbers of all columns that are in a group of some right steps, found by trying all steps."""
    found, seen, waiting = set(), {frozenset()}, [frozenset()]
    while waiting:
        earlier = waiting.pop()
        for group in groups_that_follow(columns, earlier):
            later = earlier | set(group)
            found |= later
            if later not in seen:
                seen.add(later)
                waiting.append(later)
    return sorted(found)


class Checking(unittest.TestCase):
    def check(self, columns, steps, expected):
        before = copy.deepcopy((columns, steps))
        self.assertIs(check_steps(columns, steps), expected, f"{columns}, {steps}")
        self.assertEqual((columns, steps), before)
        self.assertEqual(right_steps(columns, steps), expected)

    def right(self, columns, steps):
        self.check(columns, steps, True)

    def wrong(self, columns, *several):
        for steps in several:
            self.check(columns, steps, False)


class RightSteps(Checking):
    def test_empty_steps(self):
        for columns in [[], [[]], [[1]], [[1, 2], [3, 4]]]:
            self.right(columns, ())

    def test_no_columns(self):
        self.right([], ())
        self.wrong([], (((0,), ()),), (((), ()),))

    def test_columns_of_zeros_and_without_items(self):
        self.right([[0, 0]], (((0,), ()),))
        self.right([[0], [0]], (((0, 1), ()),))
        self.right([[0], [0]], (((1,), ()), ((0,), ((1, 7, 3),))))
        self.right([[], [], []], (((2, 0), ()), ((1,), ((0, 5, 1),))))

    def test_one_group(self):
        self.right([[1, 2], [3, 4], [-4, -6]], (((0, 1, 2), ()),))
        self.wrong([[1, 2], [3, 4], [-4, -5]], (((0, 1, 2), ()),))

    def test_several_groups(self):
        columns = [[2, 0], [-2, 0], [3, 0], [1, 6], [0, -6], [5, 5]]
        steps = (((0, 1), ()), ((2,), ((0, 3, 2),)), ((3, 4), ((2, 1, 3),)))
        self.right(columns, steps)
        self.right(columns, steps[:2])
        self.right(columns, steps[:1])
        self.right(columns, (steps[0], ((3, 4), ((1, -1, 2),))))

    def test_numbers_in_any_order(self):
        columns = [[1], [4], [-5], [2], [-1], [7]]
        for group in itertools.permutations([0, 1, 2]):
            for later in itertools.permutations([3, 4]):
                for triples in itertools.permutations([(0, -3, 1), (1, 1, 1), (2, 0, 9)]):
                    self.right(columns, ((group, ()), (later, triples)))

    def test_fractions_that_are_not_in_lowest_terms(self):
        columns = [[2], [-2], [1]]
        for n, d in [(1, 2), (2, 4), (50, 100), (10 ** 30, 2 * 10 ** 30)]:
            self.right(columns, (((0, 1), ()), ((2,), ((0, n, d),))))
            self.right(columns, (((0, 1), ()), ((2,), ((1, -n, d),))))
        self.right(columns, (((0, 1), ()), ((2,), ((0, 0, 5), (1, -3, 6)))))
        self.right(columns, (((0, 1), ()), ((2,), ((0, 2, 3), (1, 3, 18)))))

    def test_empty_mixture_of_a_later_step(self):
        self.right([[1], [-1], [0], [4], [-4]], (((0, 1), ()), ((2,), ()), ((4, 3), ())))

    def test_arguments_by_name(self):
        self.assertIs(check_steps(steps=(), columns=[[1]]), True)


class WrongSteps(Checking):
    def test_empty_group(self):
        columns = [[1], [-1], [2]]
        self.wrong(columns, (((), ()),), (((0, 1), ()), ((), ())), (((0, 1), ()), ((), ((0, 0, 1),))),
                   (((0, 1), ()), ((), ((0, 1, 1), (1, 1, 1)))), (((), ()), ((0, 1), ())))

    def test_numbers_beyond_the_columns(self):
        columns = [[0], [0]]
        for number in [2, 3, 100, 10 ** 30]:
            self.wrong(columns, (((number,), ()),), (((0, number), ()),), (((0,), ()), ((number,), ())),
                       (((0,), ()), ((1,), ((number, 0, 1),))), (((0,), ()), ((1,), ((0, 1, 1), (number, 1, 1)))))

    def test_negative_numbers(self):
        columns = [[0], [0]]
        for number in [-1, -2, -3, -10 ** 30]:
            self.wrong(columns, (((number,), ()),), (((0, number), ()),), (((0,), ()), ((number,), ())),
                       (((0,), ()), ((1,), ((number, 0, 1),))), (((0, 1), ()), ((number,), ())))

    def test_number_twice_in_a_group(self):
        self.wrong([[0], [0]], (((0, 0), ()),), (((1, 0, 1), ()),), (((0,), ()), ((1, 1), ())))

    def test_number_in_two_groups(self):
        self.wrong([[0], [0], [0]], (((0,), ()), ((0,), ())), (((0, 1), ()), ((1, 2), ())),
                   (((0,), ()), ((1,), ()), ((2, 0), ())))
        self.wrong([[1], [-1]], (((0, 1), ()), ((0,), ((0, 1, 1),))))

    def test_number_twice_in_a_mixture(self):
        columns = [[2], [-2], [4]]
        self.right(columns, (((0, 1), ()), ((2,), ((0, 1, 1), (1, -1, 1)))))
        self.wrong(columns, (((0, 1), ()), ((2,), ((0, 1, 1), (0, 1, 1)))),
                   (((0, 1), ()), ((2,), ((0, 2, 1), (1, 0, 1), (0, 0, 1)))))

    def test_number_of_a_mixture_that_is_not_earlier(self):
        columns = [[1], [-1], [2], [-2]]
        self.wrong(columns, (((2, 3), ((0, 0, 1),)),), (((0, 1), ()), ((2,), ((2, 1, 1),))),
                   (((0, 1), ()), ((2,), ((3, -1, 1),)), ((3,), ((0, -2, 1),))),
                   (((0, 1), ()), ((2,), ((0, 2, 1), (3, 0, 1)))),
                   (((0, 1), ((0, 0, 1),)),), (((0, 1), ((2, 0, 1),)), ((2, 3), ())))

    def test_number_of_a_mixture_that_is_not_earlier_with_zeros(self):
        columns = [[0], [0], [0]]
        self.wrong(columns, (((0,), ((0, 1, 1),)),), (((0,), ((1, 1, 1),)),), (((0,), ((1, 1, 1),)), ((1,), ())),
                   (((0,), ()), ((1,), ((2, 1, 1),))), (((0,), ()), ((1,), ((1, 1, 1),))))

    def test_denominators_below_one(self):
        columns = [[1], [-1], [2]]
        self.right(columns, (((0, 1), ()), ((2,), ((0, 2, 1),))))
        self.wrong(columns, (((0, 1), ()), ((2,), ((0, -2, -1),))), (((0, 1), ()), ((2,), ((0, 2, 0),))),
                   (((0, 1), ()), ((2,), ((0, 2, 1), (1, 0, 0)))), (((0, 1), ()), ((2,), ((0, 2, 1), (1, 0, -1)))),
                   (((0, 1), ()), ((2,), ((0, -2 * 10 ** 30, -10 ** 30),))))
        self.wrong([[0], [0]], (((0,), ()), ((1,), ((0, 1, 0),))), (((0,), ()), ((1,), ((0, 1, -5),))))

    def test_sum_wrong_in_one_item(self):
        for place in range(3):
            columns = [[1, 2, 3], [-1, -2, -3], [2, 4, 6]]
            self.right(columns, (((0, 1), ()), ((2,), ((0, 2, 1),))))
            columns[2][place] += 1
            self.wrong(columns, (((0, 1), ()), ((2,), ((0, 2, 1),))))
            self.right(columns, (((0, 1), ()),))
            columns[1][place] += 1
            self.wrong(columns, (((0, 1), ()),))

    def test_wrong_fractions(self):
        columns = [[2], [-2], [1]]
        for n, d in [(1, 1), (1, 3), (-1, 2), (0, 1), (2, 1), (0, 2), (1, 4)]:
            self.wrong(columns, (((0, 1), ()), ((2,), ((0, n, d),))))
        self.wrong(columns, (((0, 1), ()), ((2,), ())))

    def test_two_steps_exchanged(self):
        columns = [[2], [-2], [1], [1]]
        steps = (((0, 1), ()), ((2,), ((0, 1, 2),)), ((3,), ((2, 1, 1),)))
        self.right(columns, steps)
        for order in itertools.permutations(range(3)):
            if order != (0, 1, 2):
                self.wrong(columns, tuple(steps[at] for at in order))

    def test_all_small_steps(self):
        columns = [[1], [-1], [0]]
        groups = [(), (0,), (1,), (2,), (0, 1), (1, 0), (0, 2), (0, 1, 2), (0, 0)]
        mixtures = [(), ((0, 1, 1),), ((1, -1, 2),), ((0, 0, 1),), ((2, 1, 1),), ((0, 1, 1), (1, 1, 1))]
        steps = list(itertools.product(groups, mixtures))
        found = 0
        for first, second in itertools.product(steps, repeat=2):
            expected = right_steps(columns, (first, second))
            self.check(columns, (first, second), expected)
            found += expected
        self.assertGreater(found, 0)


class Lengths(unittest.TestCase):
    def length(self, call, *arguments):
        before = copy.deepcopy(arguments)
        with self.assertRaises(BadLength) as caught:
            call(*arguments)
        self.assertEqual(arguments, before)
        return caught.exception.length

    def test_first_length_that_differs(self):
        wrong_step = (((9,), ()),)
        for columns, expected in [([[1, 2], [1]], 1), ([[1], [1, 2]], 2), ([[1], [1], [], [1, 2]], 0),
                                  ([[], [1, 2, 3], [1]], 3), (((1, 2), (1, 2), [1, 2, 3], [1]), 3),
                                  ([[0, 0], [0, 0, 0]], 3)]:
            self.assertEqual(self.length(climb, columns), expected)
            self.assertEqual(self.length(reached, columns), expected)
            self.assertEqual(self.length(check_steps, columns, ()), expected)
            self.assertEqual(self.length(check_steps, columns, wrong_step), expected)


class Climbing(unittest.TestCase):
    def check(self, columns, expected=None):
        """Check climb and reached by what points 30 and 32 say of them, and return what is reached."""
        before = copy.deepcopy(columns)
        steps = climb(columns)
        found = reached(columns)
        self.assertEqual(columns, before)
        self.assertEqual([climb(columns), reached(columns)], [steps, found])
        self.assertIs(type(steps), tuple)
        self.assertIs(check_steps(columns, steps), True)
        self.assertTrue(right_steps(columns, steps))
        for step in steps:
            self.assertIs(type(step), tuple)
            group, triples = step
            self.assertEqual([type(group), type(triples)], [tuple, tuple])
            self.assertEqual(list(group), sorted(group))
            for triple in triples:
                self.assertIs(type(triple), tuple)
                _, n, d = triple
                self.assertGreaterEqual(d, 1)
                self.assertEqual(math.gcd(n, d), 1)
        self.assertIs(type(found), list)
        self.assertEqual(found, sorted(number for group, _ in steps for number in group))
        if expected is not None:
            self.assertEqual(found, expected)
        return found

    def test_no_columns(self):
        self.assertEqual([climb([]), climb(()), reached([])], [(), (), []])

    def test_columns_without_items(self):
        for count in range(1, 7):
            self.check([[]] * count, list(range(count)))

    def test_columns_of_zeros(self):
        self.check([[0]], [0])
        self.check([[0, 0, 0]] * 6, [0, 1, 2, 3, 4, 5])
        self.check([[1, 0], [0, 0], [2, 0]], [1])

    def test_no_reachable_column(self):
        self.assertEqual(climb([[1]]), ())
        self.check([[1]], [])
        self.check([[1], [1], [-3]], [])
        self.check([[1, 0], [0, 1], [-1, 1]], [])
        self.check([[1], [2], [4], [8], [16], [32]], [])
        self.check([[1000], [1000], [1000], [1000], [1000], [-999]], [])

    def test_all_reachable(self):
        self.check([[1], [1], [-1]], [0, 1, 2])
        self.check([[1, 0], [0, 1], [-1, -1], [5, 7]], [0, 1, 2, 3])
        self.check([[1], [2], [3], [4], [5], [-15]], [0, 1, 2, 3, 4, 5])

    def test_some_reachable(self):
        self.check([[1, 0], [0, 5], [-1, 0]], [0, 2])
        self.check([[0, 5], [3, 0], [-3, 0], [7, 0]], [1, 2, 3])
        self.check([[0, 0, 1], [2, 1, 0], [-2, 0, 0], [0, -1, 0]], [1, 2, 3])

    def test_columns_that_only_a_later_step_reaches(self):
        columns = [[1, 0, 0], [-1, 0, 0], [3, 1, 0], [2, -1, 0], [0, 5, 2], [0, 0, -2]]
        self.assertIs(check_steps(columns, (((2, 3), ()),)), False)
        self.check(columns, [0, 1, 2, 3, 4, 5])
        self.assertGreaterEqual(len(climb(columns)), 3)
        self.check([columns[number] for number in [4, 2, 0, 5, 3]], [])
        self.check([columns[number] for number in [4, 2, 0, 5, 3, 1]], [0, 1, 2, 3, 4, 5])

    def test_order_of_the_columns(self):
        columns = [[1, 0], [-1, 0], [0, 4], [0, 3], [7, -4]]
        names = {tuple(column): number for number, column in enumerate(columns)}
        for order in itertools.permutations(columns):
            found = self.check(list(order))
            self.assertEqual(sorted(names[tuple(order[number])] for number in found), [0, 1, 2, 3, 4])
        columns = [[1, 0, 2], [-1, 0, -2], [0, 4, 0], [5, 0, 10], [7, -3, 0]]
        for order in itertools.permutations(columns):
            found = self.check(list(order))
            self.assertEqual(sorted(order[number] for number in found), sorted([columns[0], columns[1], columns[3]]))

    def test_a_column_multiplied(self):
        self.check([[1], [1], [-2]], [0, 1, 2])
        self.check([[1], [2], [-2]], [0, 1, 2])
        self.check([[3], [1], [-2]], [])
        self.check([[1], [1], [-6]], [])
        self.check([[0], [1], [-2]], [0])
        self.check([[1, 3], [2, 5], [-3, -8], [700, 500]], [0, 1, 2, 3])

    def test_all_small_tables(self):
        for count in range(1, 4):
            for columns in itertools.product(itertools.product([-1, 0, 2], repeat=2), repeat=count):
                self.check(columns, reachable(columns))
        for columns in itertools.product(range(-3, 4), repeat=4):
            self.check([[item] for item in columns], reachable([[item] for item in columns]))

    def test_larger_tables(self):
        source = random.Random(32)
        for count, length, most in itertools.product([4, 5, 6], [1, 2, 3, 6], [1, 2]):
            for _ in range(3):
                columns = [[source.randint(-most, most) for _ in range(length)] for _ in range(count)]
                self.check(columns, reachable(columns))

    def test_planted_steps_are_reached(self):
        source = random.Random(33)
        for _ in range(60):
            first = [[source.randint(-100, 100) for _ in range(4)] for _ in range(2)]
            first.append([-sum(items) for items in zip(*first)])
            factors = [source.randint(-2, 2) for _ in first]
            second = [[source.randint(-300, 300) for _ in range(4)]]
            second.append([sum(factor * column[place] for factor, column in zip(factors, first)) - second[0][place]
                           for place in range(4)])
            columns = [*first, *second, [source.randint(-1000, 1000) for _ in range(4)]]
            planted = list(range(5))
            order = source.sample(range(6), 6)
            found = self.check([columns[number] for number in order])
            self.assertLessEqual(set(planted), {order[number] for number in found})

    def test_largest_items(self):
        self.check([[1000] * 6, [-1000] * 6, [999] * 6, [1000, -1000] * 3, [-1000, 1000] * 3, [1] * 6],
                   [0, 1, 2, 3, 4, 5])

    def test_results_are_new(self):
        columns = [[1], [-1], [5]]
        found = reached(columns)
        found.append(7)
        found[0] = 9
        self.assertEqual(reached(columns), [0, 1, 2])

    def test_lists_and_tuples(self):
        for columns in [[[2], [-2], [1]], ((2,), (-2,), (1,)), [(2,), [-2], (1,)]]:
            self.assertEqual(reached(columns), [0, 1, 2])
            self.assertEqual(climb(columns), climb([[2], [-2], [1]]))


class Example(unittest.TestCase):
    def test_example(self):
        steps = (((0, 2), ()), ((1,), ((0, 1, 2),)))
        self.assertEqual([check_steps([[2], [1], [-2]], steps), check_steps([[2], [1], [-1]], steps),
                          reached([[1, 0], [0, 5], [-1, 0]])], [True, False, [0, 2]])


if __name__ == "__main__":
    unittest.main()
