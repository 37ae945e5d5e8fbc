"""Shelves of patterns: joining them, splitting them by one rule, and dropping their lines."""

from oneshard.placing import splitting_rule
from oneshard.rules import Rule
from oneshard.verdicts import decide


def joined(first, *others):
    """Return the pattern with the names and lines of all given patterns."""
    found = first
    for other in others:
        found = found & other
    return found


def one_rule(*patterns):
    """Return a rule under which no solution of those of the patterns that are not sure is whole."""
    rule = Rule.one_shard()
    for pattern in patterns:
        if not decide(pattern).sure:
            rule = rule * splitting_rule(pattern)
    return rule


def _selections(count):
    """Return all selections of the numbers below the count, shorter ones first, each in ascending order."""
    found = []
    layer = [()]
    while len(layer) > 0:
        found = found + layer
        layer = [(*chosen, number) for chosen in layer for number in range(count)
                 if len(chosen) == 0 or number > chosen[-1]]
    return found


def _holds_one(drops, numbers):
    """Return True if one of the drops has only numbers that are among these."""
    return any([all([number in numbers for number in drop]) for drop in drops])


def least_drops(pattern):
    """Return all least sets of line numbers without whose lines the pattern is sure."""
    drops = []
    for numbers in _selections(len(pattern)):
        if not _holds_one(drops, numbers) and decide(pattern.without(numbers)).sure:
            drops.append(numbers)
    return drops
