import copy
import unittest

from build import app, cond, fn, let, marked, nested, num, pair, prim, rec, ref, wide
from sugartrue.errors import SugarError
from sugartrue.expanding import expand
from sugartrue.machine import run, step
from sugartrue.reading import read, write, write_program
from sugartrue.terms import alike, put
from support import EXPANDERS, Case, expanded, lists_in, spoil

TEXTS = (
    "5",
    "(+ 1 (fn (a b) (rec f (c) (let d (f a) (if b c d)))))",
    "(macro m ((m) 0) ((m (a b ...) c ...) (0 (a b ...) (m c ...)))) (m (1 2) (3) (+ 4 5 (6)))",
    "(macro mk ((m k v e) (with k (((k v x) (pair v x))) e))) (mk q x (q (fn (x) x) (fn () 2)))",
    "(macro keep ((m e) e)) (keep (fn (a) (keep (+ a 1))))",
)
WRONG = (
    "(macro m ((m) _)) (m)",
    "(macro m ((m (a) ...) (0 a ...))) (m (1) 2)",
    "(let a (fn (b) b) c)",
    "(macro m ((m a ...) (m a ... a ...))) (m (1 2))",
)
RUNS = (
    "((fn (a b) (pair a (pair b a))) (fn (x) (+ x)) (+ 1 2))",
    "(let f (fn (x y) (+ x y)) (pair (f 1 2) (fn (a) (f a (f a a)))))",
    "((rec f (n) (if n (pair f (f (- n 1))) (fn () (f n)))) 2)",
    "(head (tail (pair (fn (a) a) (pair (fn (b) (+ b b)) 3))))",
    "(pair (if 0 (fn (a) a) (fn (b) b)) (1 2))",
    "(let w (fn (x) (x x)) (w w))",
    "(fn (a) (+ a (let b a b)))",
)


class Reading(Case):
    """Point 1."""

    def test_read(self):
        for text in TEXTS:
            with self.subTest(text=text):
                first, second = read(text), read(text)
                self.shares_nothing(first, second)
                kept = copy.deepcopy(second)
                spoil(first)
                self.assertEqual(second, kept)
                self.assertEqual(read(text), kept)
        self.assertIsNot(read(""), read(""))

    def test_the_lists_of_one_result_are_different_ones(self):
        for value in (read("() () (() ())"), expand(read("(0 (+) (+) (fn () 1) (fn () 1))"))):
            self.shares_nothing(value)

    def test_write(self):
        for text in TEXTS:
            with self.subTest(text=text):
                program = read(text)
                kept = copy.deepcopy(program)
                written = write_program(program)
                self.assertEqual(written, "".join(write(tree) + "\n" for tree in program))
                self.assertEqual(program, kept)


class Expanding(Case):
    """Point 1."""

    def test_expanders(self):
        for expander in EXPANDERS:
            for text in TEXTS:
                with self.subTest(text=text, expander=expander.__name__):
                    program = read(text)
                    kept = copy.deepcopy(program)
                    first = expander(program)
                    self.assertEqual(program, kept)
                    second = expander(program)
                    self.assertEqual(first, second)
                    self.shares_nothing(first, second, program)
                    expected = copy.deepcopy(first)
                    spoil(first)
                    self.assertEqual(program, kept)
                    self.assertEqual(second, expected)
                    self.assertEqual(expander(program), expected)
                    spoil(program)
                    self.assertEqual(second, expected)

    def test_expanders_with_an_error(self):
        for expander in EXPANDERS:
            for text in WRONG:
                with self.subTest(text=text, expander=expander.__name__):
                    program = read(text)
                    kept = copy.deepcopy(program)
                    for _ in range(2):
                        with self.assertRaises(SugarError):
                            expander(program)
                        self.assertEqual(program, kept)

    def test_one_expansion_leaves_nothing_to_the_next(self):
        for expander in EXPANDERS:
            expander(read("(macro m ((m) 1)) (+" + " (m)" * 150 + ")"))
            expander(read("(macro m ((m) 1)) (+" + " (m)" * 150 + ")"))
            self.assertEqual(expander(read("(fn (a) a)")), expander(read("(fn (b) b)")))
            with self.assertRaises(SugarError):
                expander(read("(m)"))

    def test_the_same_tree_at_several_places(self):
        tree = ("list", [("name", "fn", 0), ("list", [("name", "a", 1)]), ("name", "a", 2)])
        for expander in EXPANDERS:
            term = expander([("list", [("int", 0), tree, tree])])
            self.assertEqual([part[1] for part in term[2]], [[0], [1]])


class Terms(Case):
    """Point 1."""

    def test_alike(self):
        for text in TEXTS:
            first, second = expanded(text), marked(expanded(text))
            kept = copy.deepcopy((first, second))
            self.assertIs(alike(first, second), True)
            self.assertIs(alike(first, num(6)), False)
            self.assertEqual((first, second), kept)

    def test_put(self):
        term = app(ref(0), fn([1], app(ref(0), ref(1))), let(2, ref(3), rec(4, [5], cond(ref(0), ref(3), ref(5)))))
        values = {0: fn([0], app("+", ref(0))), 3: pair(fn([], num(1)), prim("none")), 7: fn([1, 2], num(3))}
        kept = copy.deepcopy((term, values))
        first = put(term, values)
        second = put(term, values)
        self.assertEqual((term, values), kept)
        self.assertEqual(first, second)
        self.shares_nothing(first, second, term, values)
        expected = copy.deepcopy(first)
        spoil(first)
        self.assertEqual((term, values), kept)
        self.assertEqual(second, expected)
        self.assertEqual(put(term, values), expected)

    def test_put_where_nothing_is_replaced(self):
        term = app(fn([1], app("+", ref(1))), fn([], num(1)))
        for values in ({}, {1: fn([2], ref(2))}, {9: fn([2], ref(2))}):
            kept = copy.deepcopy((term, values))
            result = put(term, values)
            self.assertEqual(result, term)
            self.shares_nothing(result, term, values)
            spoil(result)
            self.assertEqual((term, values), kept)

    def test_put_in_place_of_the_whole_term(self):
        values = {0: fn([1], app("+", ref(1)))}
        result = put(ref(0), values)
        self.assertEqual(result, values[0])
        self.shares_nothing(result, values)

    def test_what_is_put_at_several_places(self):
        self.shares_nothing(put(app(ref(0), ref(0), ref(0)), {0: fn([1], app("+", ref(1)))}))
        shared = fn([1], app("+", ref(1)))
        self.shares_nothing(put(app(ref(0), ref(2)), {0: shared, 2: shared}))
        self.shares_nothing(put(app(shared, shared), {}))


class Running(Case):
    """Point 1."""

    def test_step(self):
        for text in RUNS:
            with self.subTest(text=text):
                term = expanded(text)
                for _ in range(12):
                    kept = copy.deepcopy(term)
                    try:
                        first = step(term)
                        second = step(term)
                    except SugarError:
                        first = second = None
                    self.assertEqual(term, kept)
                    if first is None:
                        break
                    self.assertEqual(first, second)
                    self.shares_nothing(first, second, term)
                    expected = copy.deepcopy(second)
                    spoil(first)
                    self.assertEqual(term, kept)
                    self.assertEqual(second, expected)
                    self.assertEqual(step(term), expected)
                    term = second

    def test_step_with_an_error(self):
        for term in (app(num(1), fn([0], ref(0))), nested(101, num(1)), wide(3001), app("head", fn([], app("+")))):
            kept = copy.deepcopy(term)
            for _ in range(2):
                with self.assertRaises(SugarError):
                    step(term)
                self.assertEqual(term, kept)

    def test_run(self):
        for text in RUNS:
            for limit in (0, 1, 2, 9):
                with self.subTest(text=text, limit=limit):
                    term = expanded(text)
                    kept = copy.deepcopy(term)
                    states, end = run(term, limit)
                    again, _ = run(term, limit)
                    self.assertEqual(term, kept)
                    # Neither two states nor two parts of one share a list.
                    self.shares_nothing(states, again, term)
                    expected = copy.deepcopy(states)
                    for at, state in enumerate(states):
                        spoil(state)
                        self.assertEqual(states[at + 1:], expected[at + 1:])
                    self.assertEqual(term, kept)
                    self.assertEqual(again, expected)
                    self.assertEqual(run(term, limit), (expected, end))

    def test_the_list_of_states_is_a_new_one(self):
        for term in (num(1), expanded("(+ 1 2)"), app(num(1)), nested(101, num(1))):
            first, _ = run(term, 5)
            expected = copy.deepcopy(first)
            first.append("spoiled")
            self.assertEqual(run(term, 5)[0], expected)

    def test_states_of_a_run_that_ends_with_an_error(self):
        for term in (app(fn([0], app(num(1), ref(0), ref(0))), fn([0], ref(0))), nested(101, fn([0], ref(0))), wide(3001)):
            states, _ = run(term, 5)
            self.shares_nothing(states, term)
            kept = copy.deepcopy(term)
            spoil(states)
            self.assertEqual(term, kept)

    def test_a_term_with_lists_at_several_places(self):
        shared = fn([0], app("+", ref(0)))
        for term in (app("pair", shared, shared), app("pair", shared, app("+", num(1), num(2)))):
            states, _ = run(term, 5)
            self.shares_nothing(states, term)
        self.assertGreater(len(lists_in(term)), 0)


if __name__ == "__main__":
    unittest.main()
