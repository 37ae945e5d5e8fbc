"""Placing sure patterns in one shard, and rules that split all others."""

from oneshard.choosing import choose_numbers
from oneshard.errors import IsSure, NotSure
from oneshard.families import family_forms
from oneshard.rules import Rule
from oneshard.verdicts import decide


def _sure_verdict(pattern):
    """Return the verdict of a pattern that is sure."""
    verdict = decide(pattern)
    if not verdict.sure:
        raise NotSure(verdict.kind)
    return verdict


def _records(pattern, paper, rule, above):
    """Return the whole solution that a certificate gives under the rule."""
    if paper[0] == "single":
        return {name: paper[1] for name in pattern.names}
    numbers = choose_numbers(pattern, paper, rule, above)
    forms = family_forms(pattern, paper)
    return {name: forms[name](numbers) for name in pattern.names}


def place(pattern, rule, *, above=0):
    """Return a solution of a sure pattern that is whole under the rule."""
    verdict = _sure_verdict(pattern)
    return _records(pattern, verdict.paper, rule, above)


def places(pattern, rule, count, *, above=0):
    """Yield solutions of a sure pattern that are whole under the rule, with one label for all of them."""
    verdict = _sure_verdict(pattern)
    most = min(count, 1) if verdict.kind == "single" else count
    bound = above
    for _ in range(most):
        records = _records(pattern, verdict.paper, rule, bound)
        # The caller may change the records before the next ones are asked for.
        bound = max(records.values())
        yield records


def splitting_rule(pattern):
    """Return a rule under which no solution of a pattern that is not sure is whole."""
    verdict = decide(pattern)
    if verdict.sure:
        raise IsSure(verdict.kind)
    if verdict.kind == "rests":
        _, _, modulus = verdict.paper
        return Rule.remainder(modulus)
    if verdict.kind == "same":
        return Rule.one_shard()
    _, _, base, constant, _ = verdict.paper
    return Rule.last_figure(base, shift=constant)
