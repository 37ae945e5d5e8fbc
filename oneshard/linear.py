"""What the lines of a pattern say of sums: combinations, columns of names and steps of names."""

from oneshard.forms import Form
from oneshard.lines import Equation, Unlike
from oneshard.staircases import check_steps

# No column has this number.
NO_NUMBER = -1


def has_inequality(pattern):
    """Return True if one of the lines is an inequality, otherwise False."""
    return any([line.KIND == Unlike.KIND for line in pattern.lines])


def fits(line, constant):
    """Return True if the line holds when every name has the constant, otherwise False."""
    return line.holds({name: constant for name in line.names})


def combination(pattern, multipliers):
    """Return the sum of the forms of all equations and congruences, each times the multiplier of its line."""
    found = Form({})
    for line, multiplier in zip(pattern.lines, multipliers):
        if line.KIND != Unlike.KIND:
            found = found + line.form * multiplier
    return found


def equation_rows(pattern):
    """Return a row for each equation: the coefficients of all names of the pattern."""
    forms = [line.form for line in pattern.lines if line.KIND == Equation.KIND]
    return [tuple([form[name] for name in pattern.names]) for form in forms]


def name_columns(pattern):
    """Return a column for each name: its coefficients in all equations."""
    rows = equation_rows(pattern)
    return [tuple([row[place] for row in rows]) for place in range(len(pattern.names))]


def spread(pattern, items):
    """Return the items of the equations as multipliers, with 0 for all other lines."""
    multipliers = []
    place = 0
    for line in pattern.lines:
        if line.KIND == Equation.KIND:
            multipliers.append(items[place])
            place = place + 1
        else:
            multipliers.append(0)
    return tuple(multipliers)


def only_equations(pattern, multipliers):
    """Return True if there is one multiplier for each line, 0 for all that are not equations."""
    if len(multipliers) != len(pattern.lines):
        return False
    return all([line.KIND == Equation.KIND or multiplier == 0
                for line, multiplier in zip(pattern.lines, multipliers)])


def named_steps(pattern, steps):
    """Return the steps with the names of the pattern in the place of their numbers."""
    names = pattern.names
    return tuple([(tuple([names[number] for number in group]),
                   tuple([(names[number], n, d) for number, n, d in triples]))
                  for group, triples in steps])


def _number(names, name):
    """Return the number of a name, or one that no column has if it is not among the names."""
    return names.index(name) if name in names else NO_NUMBER


def right_steps(pattern, steps):
    """Return True if the steps of names are right for the pattern, otherwise False."""
    names = pattern.names
    numbered = tuple([(tuple([_number(names, name) for name in group]),
                       tuple([(_number(names, name), n, d) for name, n, d in triples]))
                      for group, triples in steps])
    return check_steps(name_columns(pattern), numbered)


def grouped_names(steps):
    """Return the names of all groups."""
    return [name for group, _ in steps for name in group]
