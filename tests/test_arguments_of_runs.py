import copy
import unittest

from sugartrue.errors import SugarError
from sugartrue.naming import classes, rename
from sugartrue.play import report
from sugartrue.reading import read
from sugartrue.showing import show
from support import Case, spoil

TEXTS = (
    "5",
    "(+ 1 (let x 2 (* x x)))",
    "(macro either ((m a b) (let t a (if t t b)))) (either 0 (+ 1 1))",
    "(macro m ((m (e ...) ...) (fn () (0 (1 e ...) ...)))) (pair (m (1 2) ()) (fn (x y) (m (x) (y))))",
    "(macro mk ((m k v e) (with k (((k v) (pair v 1))) e))) (mk q x (q (+ 1 2)))",
    "(macro m ((m e _) (pair e e))) (macro k ((k a b ...) (m a (b ...)))) (k (pair 1 (fn () 2)) 3)",
    "((rec f (n) (if n (f (- n 1)) (pair n (fn (a b) (b a))))) 3)",
    "(1 2)",
)
WRONG = ("", "(macro m ((m x x) 1)) 5", "(macro m ((m 1) 1)) (m 2)", "(let a (fn (b) b) c)", "(macro m ((m) (m))) (m)")


class Arguments(Case):
    """Point 1, for the functions of naming, showing and play."""

    def is_pure(self, call, program):
        """A call leaves a program as it is, and its results share no list with it or with each other."""
        kept = copy.deepcopy(program)
        first = call(program)
        self.assertEqual(program, kept)
        second = call(program)
        self.assertEqual(first, second)
        self.shares_nothing(first, second, program)
        expected = copy.deepcopy(first)
        spoil(first)
        self.assertEqual(program, kept)
        self.assertEqual(second, expected)
        self.assertEqual(call(program), expected)
        spoil(program)
        self.assertEqual(second, expected)

    def test_classes(self):
        for text in TEXTS:
            with self.subTest(text=text):
                self.is_pure(classes, read(text))

    def test_rename(self):
        for text in TEXTS:
            for indexes in ([], [0], [1, 3, 5], list(range(30))):
                with self.subTest(text=text, indexes=indexes):
                    kept = list(indexes)
                    self.is_pure(lambda program: rename(program, indexes, "fresh"), read(text))
                    self.assertEqual(indexes, kept)

    def test_show(self):
        for text in TEXTS:
            for limit in (0, 1, 30):
                with self.subTest(text=text, limit=limit):
                    self.is_pure(lambda program: show(program, limit), read(text))

    def test_report(self):
        for text in (*TEXTS, *WRONG, "(a"):
            with self.subTest(text=text):
                first, second = report(text), report(text)
                self.assertEqual(first, second)
                self.assertIsNot(first, second)
                first.append("spoiled")
                self.assertEqual(report(text), second)

    def test_with_an_error(self):
        for call in (classes, lambda program: show(program, 5)):
            for text in WRONG:
                with self.subTest(text=text):
                    program = read(text)
                    kept = copy.deepcopy(program)
                    for _ in range(2):
                        with self.assertRaises(SugarError):
                            call(program)
                        self.assertEqual(program, kept)

    def test_one_call_leaves_nothing_to_the_next(self):
        many = "(macro m ((m) 1)) (+" + " (m)" * 150 + ")"
        for call in (classes, lambda program: show(program, 5)):
            first = call(read(TEXTS[2]))
            self.assertEqual(call(read(many)), call(read(many)))
            self.assertEqual(call(read(TEXTS[2])), first)
        self.assertEqual(classes(read("(fn (a) a)")), [[1, 2]])
        self.assertEqual(show(read("(fn (a) a)"), 3), [(0, "(fn (a) a)\n")])


if __name__ == "__main__":
    unittest.main()
