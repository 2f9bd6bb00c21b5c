import copy
import unittest

from sugartrue.errors import SugarError
from sugartrue.expanding import expand
from sugartrue.reading import read, write, write_program

TEXTS = (
    "5",
    "(+ 1 (fn (a b) (rec f (c) (let d (f a) (if b c d)))))",
    "(macro m ((m) 0) ((m (a b ...) c ...) (0 (a b ...) (m c ...)))) (m (1 2) (3) (+ 4 5 (6)))",
    "(macro mk ((m k v e) (with k (((k v x) (pair v x))) e))) (mk q x (q (fn (x) x) (fn () 2)))",
    "(macro keep ((m e) e)) (keep (fn (a) (keep (+ a 1))))",
)
WRONG = (
    "(macro m ((m) _)) (m)",
    "(macro m ((m (a) ...) (0 a ...))) (m (1) 2)",
    "(let a (fn (b) b) c)",
    "(macro m ((m a ...) (m a ... a ...))) (m (1 2))",
)


def lists_in(value):
    found = []
    if isinstance(value, (list, tuple)):
        if isinstance(value, list):
            found.append(value)
        for item in value:
            found += lists_in(item)
    return found


def spoil(value):
    for part in lists_in(value):
        part.append("spoiled")


class Arguments(unittest.TestCase):
    """Point 1."""

    def shares_nothing(self, value, other):
        held = [id(part) for part in lists_in(other)]
        self.assertFalse([part for part in lists_in(value) if id(part) in held])

    def test_read(self):
        for text in TEXTS:
            with self.subTest(text=text):
                first, second = read(text), read(text)
                self.shares_nothing(first, second)
                kept = copy.deepcopy(second)
                spoil(first)
                self.assertEqual(second, kept)
                self.assertEqual(read(text), kept)
        self.assertIsNot(read(""), read(""))

    def test_the_lists_of_one_result_are_different_ones(self):
        for value in (read("() () (() ())"), expand(read("(0 (+) (+) (fn () 1) (fn () 1))"))):
            held = [id(part) for part in lists_in(value)]
            self.assertEqual(len(set(held)), len(held))

    def test_write(self):
        for text in TEXTS:
            with self.subTest(text=text):
                program = read(text)
                kept = copy.deepcopy(program)
                written = write_program(program)
                self.assertEqual(written, "".join(write(tree) + "\n" for tree in program))
                self.assertEqual(program, kept)

    def test_expand(self):
        for text in TEXTS:
            with self.subTest(text=text):
                program = read(text)
                kept = copy.deepcopy(program)
                first = expand(program)
                self.assertEqual(program, kept)
                second = expand(program)
                self.assertEqual(first, second)
                self.shares_nothing(first, second)
                self.shares_nothing(first, program)
                expected = copy.deepcopy(first)
                spoil(first)
                self.assertEqual(program, kept)
                self.assertEqual(second, expected)
                self.assertEqual(expand(program), expected)
                spoil(program)
                self.assertEqual(second, expected)

    def test_expand_with_an_error(self):
        for text in WRONG:
            with self.subTest(text=text):
                program = read(text)
                kept = copy.deepcopy(program)
                for _ in range(2):
                    with self.assertRaises(SugarError):
                        expand(program)
                    self.assertEqual(program, kept)

    def test_one_expansion_leaves_nothing_to_the_next(self):
        expand(read("(macro m ((m) 1)) (+" + " (m)" * 150 + ")"))
        expand(read("(macro m ((m) 1)) (+" + " (m)" * 150 + ")"))
        self.assertEqual(expand(read("(fn (a) a)")), expand(read("(fn (b) b)")))
        with self.assertRaises(SugarError):
            expand(read("(m)"))

    def test_the_same_tree_at_several_places(self):
        tree = ("list", [("name", "fn", 0), ("list", [("name", "a", 1)]), ("name", "a", 2)])
        term = expand([("list", [("int", 0), tree, tree])])
        self.assertEqual([part[1] for part in term[2]], [[0], [1]])


if __name__ == "__main__":
    unittest.main()
