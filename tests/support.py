"""What several test files use."""

import unittest

from sugartrue.expanding import expand
from sugartrue.reading import read

NOWHERE = (-1, (), -1)


def expanded(text):
    return expand(read(text))


def numbers(ids):
    return "[" + " ".join(str(number) for number in ids) + "]"


def shape_of(term):
    """A term as a text without origins; references are written as $ and the number."""
    kind = term[0]
    if kind == "ref":
        return "$" + str(term[1])
    if kind in ("int", "prim"):
        return str(term[1])
    if kind == "fn":
        return f"(fn {numbers(term[1])} {shape_of(term[2])})"
    if kind == "rec":
        return f"(rec {term[1]} {numbers(term[2])} {shape_of(term[3])})"
    if kind == "let":
        return f"(let {term[1]} {shape_of(term[2])} {shape_of(term[3])})"
    if kind == "if":
        return "(if " + " ".join(shape_of(part) for part in term[1:4]) + ")"
    return "(" + " ".join(shape_of(part) for part in [term[1], *term[2]]) + ")"


def shape(text):
    return shape_of(expanded(text))


def parts_of(term):
    """The term and all terms in it, from the outside in and from left to right."""
    found = [term]
    for part in term[1:-1]:
        if isinstance(part, tuple):
            found += parts_of(part)
        elif isinstance(part, list):
            for item in part:
                if isinstance(item, tuple):
                    found += parts_of(item)
    return found


class Case(unittest.TestCase):
    def gives(self, text, expected):
        with self.subTest(text=text):
            self.assertEqual(shape(text), expected)

    def fails(self, kind, text):
        with self.subTest(text=text):
            with self.assertRaises(kind) as caught:
                expanded(text)
            self.assertIs(type(caught.exception), kind)
