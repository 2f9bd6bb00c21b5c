"""What several test files use."""

import unittest

from build import NOWHERE, pairs_applied, without_origins
from sugartrue.apart import expand_apart
from sugartrue.expanding import expand
from sugartrue.machine import run
from sugartrue.reading import read, write_program
from sugartrue.showing import show
from sugartrue.terms import alike

EXPANDERS = (expand, expand_apart)


def expanded(text):
    return expand(read(text))


def numbers(ids):
    return "[" + " ".join(str(number) for number in ids) + "]"


def shape_of(term):
    """A term as a text without origins; references are written as $ and the number."""
    kind = term[0]
    if kind == "ref":
        return "$" + str(term[1])
    if kind in ("int", "prim"):
        return str(term[1])
    if kind == "fn":
        return f"(fn {numbers(term[1])} {shape_of(term[2])})"
    if kind == "rec":
        return f"(rec {term[1]} {numbers(term[2])} {shape_of(term[3])})"
    if kind == "let":
        return f"(let {term[1]} {shape_of(term[2])} {shape_of(term[3])})"
    if kind == "if":
        return "(if " + " ".join(shape_of(part) for part in term[1:4]) + ")"
    if kind == "pair":
        return f"<{shape_of(term[1])} {shape_of(term[2])}>"
    return "(" + " ".join(shape_of(part) for part in [term[1], *term[2]]) + ")"


def shape(text):
    return shape_of(expanded(text))


def lists_in(value):
    """All lists in a value, also those in dicts and in other lists."""
    found = []
    if isinstance(value, dict):
        value = list(value.values())
    if isinstance(value, (list, tuple)):
        if isinstance(value, list):
            found.append(value)
        for item in value:
            found += lists_in(item)
    return found


def names_in(program):
    """All names in a program, from left to right."""
    found = []
    for tree in program:
        if tree[0] == "name":
            found.append(tree)
        elif tree[0] == "list":
            found += names_in(tree[1])
    return found


def spoil(value):
    """Changes all lists in a value."""
    for part in lists_in(value):
        part.append("spoiled")


class Case(unittest.TestCase):
    def gives(self, text, expected):
        """Both expanders give a term of a shape."""
        with self.subTest(text=text):
            term = expanded(text)
            self.assertEqual(shape_of(term), expected)
            self.agrees(read(text), term)

    def agrees(self, program, term):
        """The second expander gives the term of the first one, but with no origins."""
        apart = expand_apart(program)
        self.assertEqual(apart, without_origins(term))
        self.assertIs(alike(term, apart), True)
        self.assertIs(alike(apart, term), True)

    def fails(self, kind, text):
        """Both expanders raise an error of a class."""
        for expander in EXPANDERS:
            with self.subTest(text=text, expander=expander.__name__):
                with self.assertRaises(kind) as caught:
                    expander(read(text))
                self.assertIs(type(caught.exception), kind)

    def shares_nothing(self, value, *others):
        """No list of a value is a list of another one, nor twice in the value."""
        held = [id(part) for part in lists_in(list(others))]
        own = [id(part) for part in lists_in(value)]
        self.assertFalse([number for number in own if number in held])
        self.assertEqual(len(set(own)), len(own))


class ShowCase(unittest.TestCase):
    def shown(self, text, limit=200):
        """The shown states of a run: a dict from their indexes to their expressions; and how many states there are.

        Each of them is the definitions and an expression that means what the state means.
        """
        program = read(text)
        states, _ = run(expand(program), limit)
        definitions = write_program(program[:-1])
        found = show(program, limit)
        indexes = [at for at, _ in found]
        self.assertEqual(indexes, sorted(set(indexes)))
        expressions = {}
        for at, shown in found:
            self.assertTrue(shown.startswith(definitions))
            self.assertLessEqual(len(shown), 4000)
            again = read(shown)
            self.assertEqual(write_program(again), shown)
            self.assertEqual(len(again), len(program))
            self.assertIs(alike(expand(again), pairs_applied(states[at])), True)
            expressions[at] = shown[len(definitions):-1]
        return expressions, len(states)

    def shows(self, text, *expected):
        """A run has as many states, and those are shown so; None stands for a state that is not shown."""
        with self.subTest(text=text):
            expressions, count = self.shown(text)
            self.assertEqual([expressions.get(at) for at in range(count)], list(expected))

    def shows_after(self, definitions, *expected):
        """The same for a program of definitions and the first expression that is expected."""
        self.shows(f"{definitions} {expected[0]}", *expected)
