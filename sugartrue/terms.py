"""Terms: what they consist of, when two are alike, and values in place of variables."""

# The origin of a term that no use introduced and that is no result of a use.
NOWHERE = (-1, (), -1)


def inner_terms(term):
    """The terms directly in a term, from left to right; if it binds variables, its body is the last one."""
    kind = term[0]
    if kind in ("int", "prim", "ref"):
        return []
    if kind == "app":
        return [term[1], *term[2]]
    if kind == "fn":
        return [term[2]]
    if kind == "rec":
        return [term[3]]
    if kind == "let":
        return [term[2], term[3]]
    return list(term[1:-1])


def bound_in_body(term):
    """The numbers of the variables that a term binds in its body."""
    if term[0] == "fn":
        return list(term[1])
    if term[0] == "rec":
        return [term[1], *term[2]]
    if term[0] == "let":
        return [term[1]]
    return []


def rebuilt(term, inner):
    """A term like another one, but with these terms directly in it, and with lists of its own."""
    kind = term[0]
    origin = term[-1]
    if kind in ("int", "prim", "ref"):
        return term
    if kind == "app":
        return (kind, inner[0], inner[1:], origin)
    if kind == "fn":
        return (kind, list(term[1]), inner[0], origin)
    if kind == "rec":
        return (kind, term[1], list(term[2]), inner[0], origin)
    if kind == "let":
        return (kind, term[1], *inner, origin)
    return (kind, *inner, origin)


def folded(term, make):
    """What a function makes of a term and of the list of what it made of the terms directly in it."""
    done = []
    # A term, and whether the terms in it are done: then they are the last ones of those that are done.
    tasks = [(term, False)]
    while tasks:
        part, finished = tasks.pop()
        inner = inner_terms(part)
        if finished:
            start = len(done) - len(inner)
            made = done[start:]
            del done[start:]
            done.append(make(part, made))
        else:
            tasks.append((part, True))
            tasks.extend([(each, False) for each in reversed(inner)])
    return done[0]


def without_pairs(term):
    """A term with applications of `pair` in place of its pairs."""
    return folded(term, application_of_pair)


def application_of_pair(term, inner):
    """A term with these terms directly in it; a pair becomes an application."""
    if term[0] == "pair":
        return ("app", ("prim", "pair", NOWHERE), inner, term[-1])
    return rebuilt(term, inner)


def alike(first, second):
    """Whether two terms are equal but for their origins and the numbers of their variables."""
    bindings = 0
    # Terms that belong together, and for each of them the bindings that it is inside of:
    # a dict from the numbers of their variables to a number that both terms share.
    tasks = [(first, {}, second, {})]
    while tasks:
        one, around_one, other, around_other = tasks.pop()
        inner_one = inner_terms(one)
        inner_other = inner_terms(other)
        bound_one = bound_in_body(one)
        bound_other = bound_in_body(other)
        if one[0] != other[0] or len(inner_one) != len(inner_other) or len(bound_one) != len(bound_other):
            return False
        if not inner_one and not same_leaf(one, around_one, other, around_other):
            return False
        outside = len(inner_one) - 1 if bound_one else len(inner_one)
        for at in range(outside):
            tasks.append((inner_one[at], around_one, inner_other[at], around_other))
        if bound_one:
            within_one = bound_to(around_one, bound_one, bindings)
            within_other = bound_to(around_other, bound_other, bindings)
            tasks.append((inner_one[-1], within_one, inner_other[-1], within_other))
            bindings += len(bound_one)
    return True


def bound_to(around, variables, start):
    """The bindings around a body, where the new ones are numbered from a start on."""
    larger = dict(around)
    for at, variable in enumerate(variables):
        larger[variable] = start + at
    return larger


def same_leaf(one, around_one, other, around_other):
    """Whether two integers, primitives or references of the same kind are alike."""
    if one[0] != "ref":
        return one[1] == other[1]
    binding = around_one.get(one[1])
    if binding is None and around_other.get(other[1]) is None:
        return one[1] == other[1]
    return binding == around_other.get(other[1])


def put(term, values):
    """A term with values in place of variables; it shares no list with what it is made of."""
    return fresh(placed(term, values))


def fresh(term):
    """An equal term that shares no list with the term, and no two parts of which share one."""
    return placed(term, {})


def placed(term, values):
    """A term with values in place of variables; only the values themselves are shared."""
    done = []
    # A term, the values of the variables that are not bound again around it, and whether
    # the terms in it are done: then they are the last ones of those that are done.
    tasks = [(term, values, False)]
    while tasks:
        part, visible, finished = tasks.pop()
        if finished:
            start = len(done) - len(inner_terms(part))
            inner = done[start:]
            del done[start:]
            done.append(rebuilt(part, inner))
        elif part[0] == "ref":
            done.append(visible.get(part[1], part))
        else:
            tasks.append((part, visible, True))
            tasks.extend(inner_tasks(part, visible))
    return done[0]


def inner_tasks(term, visible):
    """The tasks for the terms directly in a term, the first one last."""
    inner = inner_terms(term)
    tasks = [(part, visible, False) for part in inner]
    hidden = {variable: True for variable in bound_in_body(term)}
    if hidden:
        left = {variable: visible[variable] for variable in visible if variable not in hidden}
        tasks[-1] = (inner[-1], left, False)
    tasks.reverse()
    return tasks
