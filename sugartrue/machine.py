"""Running terms step by step."""

from sugartrue.errors import LimitError, StuckError
from sugartrue.terms import NOWHERE, fresh, inner_terms, placed, rebuilt

DEEPEST_PART = 100
MOST_PARTS = 3000
LARGEST_INTEGER = 999999999


def check_size(term):
    count = 0
    tasks = [(term, 0)]
    while tasks:
        part, depth = tasks.pop()
        count += 1
        # A term in which values are shared may have far more parts than can be counted.
        if depth > DEEPEST_PART or count > MOST_PARTS:
            raise LimitError("a term is nested too deep or has too many parts")
        tasks.extend([(inner, depth + 1) for inner in inner_terms(part)])


def is_value(term):
    waiting = [term]
    while waiting:
        part = waiting.pop()
        if part[0] == "pair":
            waiting.extend(inner_terms(part))
        elif part[0] not in ("int", "prim", "fn", "rec"):
            return False
    return True


def made_values_first(term):
    """The terms directly in a term that must be values before a rule applies to it."""
    if term[0] == "app":
        return inner_terms(term)
    if term[0] in ("let", "if"):
        return inner_terms(term)[:1]
    return []


def first_to_be_made_a_value(term):
    """The place of such a term that is not a value yet, or None."""
    for at, part in enumerate(made_values_first(term)):
        if not is_value(part):
            return at
    return None


def stepped(term):
    """The term after one step of a term that is not a value; it may share lists with the term."""
    path = []
    at = first_to_be_made_a_value(term)
    while at is not None:
        path.append((term, at))
        term = inner_terms(term)[at]
        at = first_to_be_made_a_value(term)
    result = by_rule(term)
    for outer, place in reversed(path):
        inner = inner_terms(outer)
        inner[place] = result
        result = rebuilt(outer, inner)
    return result


def by_rule(term):
    """What the rule for a term makes of it, in which all that must be values first are values."""
    if term[0] == "let":
        return placed(term[3], {term[1]: term[2]})
    if term[0] == "if":
        # All that is not the integer 0 counts as true, whatever kind of value it is.
        return term[3] if term[1][:2] == ("int", 0) else term[2]
    if term[0] == "app":
        return applied(term[1], term[2])
    raise StuckError("no rule is for such a term")


def applied(function, args):
    if function[0] == "fn":
        return called(function[1], function[2], args, {})
    if function[0] == "rec":
        return called(function[2], function[3], args, {function[1]: function})
    if function[0] == "prim":
        return made_by_primitive(function[1], args)
    raise StuckError("what is applied is not a function")


def called(parameters, body, args, values):
    if len(args) != len(parameters):
        raise StuckError("a function is applied to too few or too many values")
    given = dict(values)
    for parameter, value in zip(parameters, args):
        given[parameter] = value
    return placed(body, given)


def made_by_primitive(name, args):
    kinds = [arg[0] for arg in args]
    if name == "pair" and len(args) == 2:
        return ("pair", args[0], args[1], NOWHERE)
    if name == "head" and kinds == ["pair"]:
        return args[0][1]
    if name == "tail" and kinds == ["pair"]:
        return args[0][2]
    if name in ("+", "-", "*", "<", "=") and kinds == ["int", "int"]:
        return ("int", calculated(name, args[0][1], args[1][1]), NOWHERE)
    raise StuckError("a primitive is applied to values that do not fit")


def calculated(name, a, b):
    if name == "<":
        return 1 if a < b else 0
    if name == "=":
        return 1 if a == b else 0
    if name == "+":
        result = a + b
    elif name == "-":
        result = a - b
    else:
        result = a * b
    if abs(result) > LARGEST_INTEGER:
        raise StuckError("a result is out of range")
    return result


def step(term):
    """The term after one step, or None for a value."""
    check_size(term)
    if is_value(term):
        return None
    after = stepped(term)
    check_size(after)
    return fresh(after)


def run(term, limit):
    """The states of a run of at most so many steps, and how it ends."""
    states = [fresh(term)]
    try:
        for _ in range(limit):
            after = step(states[-1])
            if after is None:
                return states, "value"
            states.append(after)
    except StuckError:
        return states, "stuck"
    except LimitError:
        return states, "limit"
    return states, ("value" if is_value(states[-1]) else "going")
