"""Terms for tests, written shortly."""

NOWHERE = (-1, (), -1)


def num(n, origin=NOWHERE):
    return ("int", n, origin)


def prim(name, origin=NOWHERE):
    return ("prim", name, origin)


def ref(variable, origin=NOWHERE):
    return ("ref", variable, origin)


def fn(variables, body, origin=NOWHERE):
    return ("fn", variables, body, origin)


def rec(own, variables, body, origin=NOWHERE):
    return ("rec", own, variables, body, origin)


def let(variable, value, body, origin=NOWHERE):
    return ("let", variable, value, body, origin)


def cond(test, first, second, origin=NOWHERE):
    return ("if", test, first, second, origin)


def app(function, *args, origin=NOWHERE):
    return ("app", prim(function) if isinstance(function, str) else function, list(args), origin)


def pair(first, second, origin=NOWHERE):
    return ("pair", first, second, origin)


def with_origins(term, origin):
    """A term with other origins, of which a function is asked for each part, from the outside in."""
    own = origin()
    changed = []
    for part in term[1:-1]:
        if isinstance(part, tuple):
            changed.append(with_origins(part, origin))
        elif isinstance(part, list):
            changed.append([with_origins(item, origin) if isinstance(item, tuple) else item for item in part])
        else:
            changed.append(part)
    return (term[0], *changed, own)


def without_origins(term):
    return with_origins(term, lambda: NOWHERE)


def marked(term, start=0):
    """A term in which each part has an origin of its own, numbered from a start on."""
    count = [start - 1]

    def origin():
        count[0] += 1
        return (count[0], (count[0], 7), count[0] + 1)

    return with_origins(term, origin)


def pairs_applied(term):
    """A term with applications of `pair` in place of its pairs."""
    changed = []
    for part in term[1:]:
        if isinstance(part, tuple) and part and isinstance(part[0], str):
            changed.append(pairs_applied(part))
        elif isinstance(part, list):
            changed.append([pairs_applied(item) if isinstance(item, tuple) else item for item in part])
        else:
            changed.append(part)
    return app("pair", *changed[:2]) if term[0] == "pair" else (term[0], *changed)


def parts_of(term):
    """The term and all terms in it, from the outside in and from left to right."""
    found = [term]
    for part in term[1:-1]:
        if isinstance(part, tuple):
            found += parts_of(part)
        elif isinstance(part, list):
            for item in part:
                if isinstance(item, tuple):
                    found += parts_of(item)
    return found


def nested(depth, innermost):
    """A term that stands so deep in applications of `head`."""
    term = innermost
    for _ in range(depth):
        term = app("head", term)
    return term


def wide(parts):
    """A value with as many parts: a function with an application of integers."""
    return fn([], app(num(0), *[num(1) for _ in range(parts - 3)]))
