"""Tests of oneshard.books: points 6 to 8, 19 and 68 to 73."""

import copy
import itertools
import random
import unittest

from samples import all_patterns, raised, random_line, random_patterns

from oneshard.books import Book
from oneshard.constants import constants
from oneshard.errors import BadCount, BadName, DuplicateName, NothingToUndo, OneshardError, UnknownName
from oneshard.forms import Form
from oneshard.lines import Congruence, Equation, Unlike
from oneshard.patterns import Pattern
from oneshard.placing import place, splitting_rule
from oneshard.rules import Rule
from oneshard.shelves import joined, least_drops
from oneshard.verdicts import decide

NAMES = ["x", "y", "z"]
LINES = [Equation(Form({"x": 1, "y": 1, "z": -1}, -3)), Unlike("x", "z"), Congruence(Form({"y": 2}, 1), 5),
         Equation(Form({"x": 1}, -4)), Unlike("z", "y"), Equation(Form({"z": 3}, -12)), Equation(Form({}, 0))]
KEYS = ["one", "x", "b2", "a", "six666", "k5"]
STRANGE = Equation(Form({"w": 1, "v": 2, "x": 1}))
NO_NAMES = ["", "X", "1x", "mod", "seventh", "a b", "a-b", " a"]


def book_of(pairs, names=tuple(NAMES)):
    book = Book(list(names))
    for key, line in pairs:
        book[key] = line
    return book


def full_book():
    return book_of(list(zip(KEYS, LINES))[:5])


def state(book):
    """Return all that a book tells of itself."""
    return [book.order, len(book), [book[key] for key in book.order], [key in book for key in [*KEYS, *NO_NAMES]],
            str(book.pattern()), book.verdict().paper]


class Books(unittest.TestCase):
    def check(self, book, pairs, names=tuple(NAMES)):
        """Check by point 73 that a book is like a new one with these lines."""
        self.assertEqual(state(book), state(book_of(pairs, names)))
        self.assertEqual(book.order, tuple(key for key, _ in pairs))
        self.assertEqual(len(book), len(pairs))
        self.assertEqual(book.pattern(), Pattern(list(names), [line for _, line in pairs]))
        self.assertEqual(book.verdict().paper, decide(Pattern(list(names), [line for _, line in pairs])).paper)
        for key, line in pairs:
            self.assertIs(key in book, True)
            self.assertEqual(book[key], line)

    def store(self, book, key, line):
        book[key] = line

    def undone(self, book):
        """Return the orders of the book and of all that undo takes back."""
        orders = [book.order]
        while True:
            try:
                book.undo()
            except NothingToUndo:
                return orders
            orders.append(book.order)


class Building(Books):
    def test_new_book(self):
        for names in [["x"], NAMES, ("a", "b", "c", "d", "e", "f")]:
            book = Book(names)
            self.check(book, [], tuple(names))
            self.assertEqual([book.order, len(book), book.pattern()], [(), 0, Pattern(names)])
            self.assertEqual(book.verdict().paper, ("single", 1))
            self.assertRaises(NothingToUndo, book.undo)

    def test_names(self):
        for names, count in [([], 0), ((), 0), (list("abcdefg"), 7), (["x", "x", "X", "", "1", "a", "a"], 7)]:
            self.assertEqual(raised(self, BadCount, "count", Book, names), count)
        for names, name in [(["x", "1x"], "1x"), ([""], ""), (["mod"], "mod"), (["X", "x", "x"], "X"),
                            (["a", "seventh", "a"], "seventh")]:
            self.assertEqual(raised(self, BadName, "name", Book, names), name)
        for names, name in [(["x", "y", "x"], "x"), (("a", "a", "B"), "a")]:
            self.assertEqual(raised(self, DuplicateName, "name", Book, names), name)

    def test_names_are_copied(self):
        names = ["x", "y", "z"]
        book = Book(names=names)
        names[0] = "w"
        names.append("u")
        book["one"] = LINES[0]
        self.check(book, [("one", LINES[0])])


class Storing(Books):
    def test_new_keys(self):
        book = Book(NAMES)
        for count in range(1, 6):
            book[KEYS[count - 1]] = LINES[count - 1]
            self.check(book, list(zip(KEYS, LINES))[:count])

    def test_old_keys(self):
        for number in range(5):
            book = full_book()
            book[KEYS[number]] = LINES[5]
            pairs = list(zip(KEYS, LINES))[:5]
            pairs[number] = (KEYS[number], LINES[5])
            self.check(book, pairs)

    def test_line_under_several_keys(self):
        book = book_of([("one", LINES[0]), ("two", LINES[0]), ("x", LINES[1])])
        self.assertEqual([book["one"] == book["two"], len(book)], [True, 3])
        book.drop("one")
        self.check(book, [("two", LINES[0]), ("x", LINES[1])])

    def test_keys_have_nothing_to_do_with_names(self):
        book = book_of([("x", LINES[1]), ("w", LINES[2])])
        self.check(book, [("x", LINES[1]), ("w", LINES[2])])
        self.assertEqual(["x" in book, "y" in book, "w" in book], [True, False, True])

    def test_sixth_line(self):
        book = full_book()
        before = state(book)
        for line in [LINES[5], LINES[0]]:
            self.assertEqual(raised(self, BadCount, "count", self.store, book, "k5", line), 6)
            self.assertEqual(state(book), before)
        book.drop("x")
        book["k5"] = LINES[5]
        self.assertEqual(book.order, ("one", "b2", "a", "six666", "k5"))

    def test_keys_that_are_no_names(self):
        for book in [Book(NAMES), full_book()]:
            before = state(book)
            for key, line in itertools.product(NO_NAMES, [LINES[0], STRANGE]):
                self.assertEqual(raised(self, BadName, "name", self.store, book, key, line), key)
            self.assertEqual(state(book), before)

    def test_names_that_the_book_does_not_have(self):
        for line, name in [(STRANGE, "v"), (Unlike("w", "x"), "w"), (Unlike("x", "a"), "a"), (Unlike("w", "a"), "w"),
                           (Congruence(Form({"y": 1, "yy": 1, "a": 0}), 2), "yy")]:
            for book, key in [(Book(NAMES), "one"), (full_book(), "one"), (full_book(), "k5")]:
                before = state(book)
                self.assertEqual(raised(self, UnknownName, "name", self.store, book, key, line), name)
                self.assertEqual(state(book), before)

    def test_errors_in_their_order(self):
        book = full_book()
        self.assertEqual(raised(self, BadName, "name", self.store, book, "1x", STRANGE), "1x")
        self.assertEqual(raised(self, UnknownName, "name", self.store, book, "k5", STRANGE), "v")
        self.assertEqual(raised(self, BadCount, "count", self.store, book, "k5", LINES[0]), 6)
        self.store(book, "one", LINES[0])


class Asking(Books):
    def test_lines(self):
        book = full_book()
        for key, line in zip(KEYS[:5], LINES):
            self.assertIs(book[key] == line, True)
        for key in ["k5", "y", *NO_NAMES]:
            self.assertEqual(raised(self, UnknownName, "name", lambda: book[key]), key)

    def test_in(self):
        book = full_book()
        self.assertEqual([key in book for key in KEYS], [True] * 5 + [False])
        self.assertEqual([key in book for key in NO_NAMES], [False] * len(NO_NAMES))
        self.assertIs("one" in book, True)
        self.assertIs("y" in book, False)

    def test_order(self):
        book = full_book()
        self.assertIs(type(book.order), tuple)
        self.assertEqual(book.order, tuple(KEYS[:5]))
        with self.assertRaises(AttributeError):
            book.order = ()
        self.assertEqual(book.order, tuple(KEYS[:5]))

    def test_pattern(self):
        book = full_book()
        pattern = book.pattern()
        self.assertEqual(pattern, Pattern(NAMES, LINES[:5]))
        book.drop("one")
        self.assertEqual([len(pattern), len(book.pattern())], [5, 4])

    def test_verdict(self):
        book = Book(["x", "y"])
        kinds = [book.verdict().kind]
        for key, line in [("a", Unlike("x", "y")), ("b", Equation(Form({"x": 1, "y": -1}))),
                          ("a", Equation(Form({"x": 1, "y": -2}))), ("b", Equation(Form({"x": 1}, -3)))]:
            book[key] = line
            kinds.append(book.verdict().kind)
        self.assertEqual(kinds, ["single", "family", "same", "figures", "rests"])

    def test_books_are_not_iterated_over(self):
        self.assertRaises(TypeError, list, full_book())


class Dropping(Books):
    def test_every_line(self):
        for number in range(5):
            book = full_book()
            self.assertIsNone(book.drop(KEYS[number]))
            pairs = list(zip(KEYS, LINES))[:5]
            del pairs[number]
            self.check(book, pairs)
            self.assertIs(KEYS[number] in book, False)

    def test_stored_again(self):
        book = full_book()
        book.drop("one")
        book["one"] = LINES[0]
        self.assertEqual(book.order, ("x", "b2", "a", "six666", "one"))

    def test_keys_that_are_not_there(self):
        for book in [Book(NAMES), full_book()]:
            before = state(book)
            for key in ["k5", "y", *NO_NAMES]:
                self.assertEqual(raised(self, UnknownName, "name", book.drop, key), key)
            self.assertEqual(state(book), before)
        book = full_book()
        book.drop(key="one")
        self.assertEqual(raised(self, UnknownName, "name", book.drop, "one"), "one")


class Undoing(Books):
    def nothing(self, book):
        before = state(book)
        with self.assertRaises(NothingToUndo) as caught:
            book.undo()
        self.assertIs(type(caught.exception), NothingToUndo)
        self.assertEqual(state(book), before)

    def test_new_line(self):
        book = Book(NAMES)
        book["one"] = LINES[0]
        book["two"] = LINES[1]
        self.assertIsNone(book.undo())
        self.check(book, [("one", LINES[0])])
        book.undo()
        self.check(book, [])
        self.nothing(book)

    def test_line_in_the_place_of_another(self):
        for number in range(5):
            book = full_book()
            book[KEYS[number]] = LINES[5]
            book.undo()
            self.check(book, list(zip(KEYS, LINES))[:5])

    def test_drop(self):
        for number in range(5):
            book = full_book()
            book.drop(KEYS[number])
            book.undo()
            self.check(book, list(zip(KEYS, LINES))[:5])

    def test_line_that_is_equal_to_the_old_one(self):
        book = book_of([("one", LINES[0])])
        book["one"] = LINES[0]
        book["one"] = Equation(Form({"x": 1, "y": 1, "z": -1}, -3))
        for _ in range(2):
            book.undo()
            self.check(book, [("one", LINES[0])])
        book.undo()
        self.check(book, [])
        self.nothing(book)

    def test_everything(self):
        book = full_book()
        book.drop("b2")
        book["k5"] = LINES[5]
        book["x"] = LINES[6]
        self.assertEqual(self.undone(book), [
            ("one", "x", "a", "six666", "k5"), ("one", "x", "a", "six666", "k5"), ("one", "x", "a", "six666"),
            ("one", "x", "b2", "a", "six666"), ("one", "x", "b2", "a"), ("one", "x", "b2"), ("one", "x"), ("one",), ()])
        self.nothing(book)
        self.nothing(book)

    def test_errors_are_no_changes(self):
        book = book_of([("one", LINES[0]), ("two", LINES[1])])
        for call in [lambda: self.store(book, "1x", LINES[0]), lambda: self.store(book, "one", STRANGE),
                     lambda: self.store(book, "three", STRANGE), lambda: book.drop("three"), lambda: book.drop("1x"),
                     lambda: book["three"], lambda: book.tried([("one", None), ("one", None)])]:
            self.assertRaises(OneshardError, call)
        book.undo()
        self.check(book, [("one", LINES[0])])
        book = full_book()
        raised(self, BadCount, "count", self.store, book, "k5", LINES[0])
        book.undo()
        self.check(book, list(zip(KEYS, LINES))[:4])

    def test_changes_behind_an_undo(self):
        book = book_of([("one", LINES[0]), ("two", LINES[1]), ("three", LINES[2])])
        book.undo()
        book.undo()
        book["four"] = LINES[3]
        self.check(book, [("one", LINES[0]), ("four", LINES[3])])
        book.undo()
        self.check(book, [("one", LINES[0])])
        book["one"] = LINES[5]
        book.drop("one")
        book.undo()
        self.check(book, [("one", LINES[5])])
        book.undo()
        book.undo()
        self.check(book, [])
        self.nothing(book)

    def test_undo_is_no_change(self):
        book = book_of([("one", LINES[0]), ("two", LINES[1])])
        book.undo()
        book.undo()
        self.nothing(book)
        self.check(book, [])


class Trying(Books):
    def tried(self, book, changes):
        """Try changes, check by point 72 that the book stays, and return the verdict or the error."""
        before, past = state(book), self.undone(copy.deepcopy(book))
        copied = list(changes)
        try:
            found = book.tried(changes)
        except OneshardError as error:
            found = error
        self.assertEqual(changes, copied)
        self.assertEqual(state(book), before)
        self.assertEqual(self.undone(copy.deepcopy(book)), past)
        return found

    def error(self, book, changes, kind, word):
        found = self.tried(book, changes)
        self.assertIs(type(found), kind)
        return getattr(found, word)

    def test_no_changes(self):
        for book in [Book(NAMES), full_book()]:
            self.assertEqual(self.tried(book, []).paper, book.verdict().paper)

    def test_stored_and_dropped_lines(self):
        book = book_of([("one", LINES[0]), ("two", LINES[1])])
        for changes, lines in [
                ([("three", LINES[2])], [LINES[0], LINES[1], LINES[2]]), ([("one", LINES[3])], [LINES[3], LINES[1]]),
                ([("one", None)], [LINES[1]]), ([("one", None), ("two", None)], []),
                ([("one", None), ("one", LINES[0])], [LINES[1], LINES[0]]),
                ([("a", LINES[3]), ("a", None)], [LINES[0], LINES[1]]),
                ([("a", LINES[3]), ("a", LINES[5]), ("two", None), ("b", LINES[4])], [LINES[0], LINES[5], LINES[4]])]:
            found = self.tried(book, changes)
            self.assertEqual(found.paper, decide(Pattern(NAMES, lines)).paper)

    def test_errors(self):
        book = book_of([("one", LINES[0]), ("two", LINES[1])])
        right = [("a", LINES[3]), ("two", None)]
        for place in range(3):
            for change, kind, value in [(("1x", LINES[0]), BadName, "1x"), (("b", STRANGE), UnknownName, "v"),
                                        (("b", None), UnknownName, "b"), (("1x", None), UnknownName, "1x"),
                                        (("mod", STRANGE), BadName, "mod")]:
                changes = [*right[:place], change, *right[place:], ("", STRANGE)]
                self.assertEqual(self.error(book, changes, kind, "name"), value)
        self.assertEqual(self.error(book, [("two", None), ("two", None)], UnknownName, "name"), "two")
        self.assertEqual(self.error(book, [("c", LINES[2]), ("c", None), ("c", None)], UnknownName, "name"), "c")

    def test_sixth_line(self):
        book = full_book()
        self.assertEqual(self.error(book, [("k5", LINES[5])], BadCount, "count"), 6)
        self.assertEqual(self.error(book, [("one", LINES[5]), ("k5", LINES[5])], BadCount, "count"), 6)
        self.assertEqual(self.error(book, [("k5", LINES[5]), ("one", None)], BadCount, "count"), 6)
        found = self.tried(book, [("one", None), ("k5", LINES[5])])
        self.assertEqual(found.paper, decide(Pattern(NAMES, [*LINES[1:5], LINES[5]])).paper)

    def test_changes_of_any_length(self):
        book = Book(NAMES)
        changes = [pair for number in range(30) for pair in [("a", LINES[number % 7]), ("b", LINES[0]), ("a", None)]]
        self.assertEqual(self.tried(book, changes).paper, decide(Pattern(NAMES, [LINES[0]])).paper)

    def test_undo_after_trying(self):
        book = book_of([("one", LINES[0]), ("two", LINES[1])])
        book.tried([("three", LINES[2]), ("one", None)])
        book.undo()
        self.check(book, [("one", LINES[0])])
        book.tried([("one", None)])
        book.undo()
        self.assertRaises(NothingToUndo, book.undo)

    def test_argument_by_name(self):
        self.assertEqual(Book(["x"]).tried(changes=[("a", Equation(Form({"x": 1}, -4)))]).paper, ("single", 4))


class Histories(Books):
    def step(self, source, book, past):
        """Make a random call, and return the lines that the book has now, with the history of its changes."""
        pairs = dict(past[-1])
        key = source.choice(["a", "b", "c", "d", "e", "f", "g"])
        line = source.choice([*LINES, random_line(source, NAMES, 3, 2), STRANGE])
        kind = source.randint(0, 9)
        if kind <= 4:
            try:
                book[key] = line
            except (UnknownName, BadCount):
                self.assertTrue(line is STRANGE or (len(pairs) == 5 and key not in pairs))
                return past
            self.assertTrue(line is not STRANGE and (len(pairs) < 5 or key in pairs))
            pairs[key] = line
            return [*past, list(pairs.items())]
        if kind <= 6:
            if key not in pairs:
                self.assertEqual(raised(self, UnknownName, "name", book.drop, key), key)
                return past
            book.drop(key)
            del pairs[key]
            return [*past, list(pairs.items())]
        if kind == 7:
            try:
                book.tried([(key, line), ("a", None), ("b", LINES[0])])
            except OneshardError:
                pass
            return past
        if len(past) == 1:
            self.assertRaises(NothingToUndo, book.undo)
            return past
        book.undo()
        return past[:-1]

    def test_random_histories(self):
        for seed in range(12):
            source = random.Random(seed)
            book, past = Book(NAMES), [[]]
            for _ in range(120):
                past = self.step(source, book, past)
                self.check(book, past[-1])
            while len(past) > 1:
                book.undo()
                past = past[:-1]
                self.check(book, past[-1])
            self.assertRaises(NothingToUndo, book.undo)

    def test_two_books_with_the_same_lines(self):
        source = random.Random(73)
        books, pasts = [Book(NAMES), Book(NAMES)], [[[]], [[]]]
        for number in range(300):
            pasts[number % 2] = self.step(source, books[number % 2], pasts[number % 2])
            for book, past in zip(books, pasts):
                self.check(book, past[-1])

    def test_results_are_new(self):
        book = full_book()
        before = state(book)
        verdict = book.verdict()
        verdict.kind = "single"
        verdict.paper = ()
        list(book.order).clear()
        book[KEYS[0]].form.coefficients.clear()
        self.assertEqual(state(book), before)


class Roads(Books):
    """Point 7: every road to a pattern gives equal patterns, about which every function says the same."""

    def roads(self, pattern):
        names, lines = list(pattern.names), list(pattern.lines)
        yield Pattern(names, lines)
        yield Pattern(tuple(names), tuple(lines))
        yield Pattern.read(str(pattern))
        yield book_of([(f"k{number}", line) for number, line in enumerate(lines)], names).pattern()
        yield pattern.without([])
        yield pattern.without(())
        yield joined(pattern)
        if len(lines) < 5:
            for place in range(len(lines) + 1):
                line = Unlike(names[0], names[-1]) if len(names) > 1 else Congruence(Form({names[0]: 7}, 3), 2)
                yield Pattern(names, [*lines[:place], line, *lines[place:]]).without([place, place])
        for count in range(1, len(names)):
            first = [line for line in lines if set(line.names) <= set(names[:count])]
            second = [line for line in lines if line not in first and set(line.names) <= set(names[count:])]
            if first + second == lines:
                yield Pattern(names[:count], first) & Pattern(names[count:], second)
                yield joined(Pattern(names[:count], first), Pattern(names[count:], second))

    def sayings(self, pattern):
        verdict = decide(pattern)
        said = [str(pattern), pattern.names, pattern.lines, len(pattern), constants(pattern), verdict.paper,
                least_drops(pattern)]
        rule = Rule.last_figure(3, shift=1) * Rule.leading(2, 3) * Rule.remainder(10)
        said.append(place(pattern, rule, above=9) if verdict.sure else splitting_rule(pattern))
        return said

    def test_equal_patterns(self):
        roads = 0
        for pattern in [*[pattern for _, pattern in all_patterns()], *random_patterns(7, 120)]:
            expected = self.sayings(pattern)
            for other in self.roads(pattern):
                roads += 1
                self.assertEqual(other, pattern)
                self.assertEqual(self.sayings(other), expected)
        self.assertGreater(roads, 1000)


class Example(unittest.TestCase):
    def test_book(self):
        book = Book(["x", "y"])
        book["one"] = Equation(Form({"x": 1, "y": -2}))
        verdict = book.tried([("two", Equation(Form({"x": 1}, -4))), ("one", None)])
        self.assertEqual([verdict.kind, book.order, book.verdict().kind], ["single", ("one",), "figures"])


if __name__ == "__main__":
    unittest.main()
