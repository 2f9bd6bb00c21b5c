import unittest

from build import app, cond, fn, let, nested, num, pair, ref, rec, wide
from sugartrue.expanding import expand
from sugartrue.machine import run, step
from sugartrue.reading import read
from support import expanded, shape_of

LOOP = "((rec f () (f)))"
DOWN = "((rec f (n) (if n (f (- n 1)) 7)) 3)"


class Run(unittest.TestCase):
    """Points 26 and 27, and what the interface says of run."""

    def ends(self, term, limit, count, end):
        """A run has so many states and this end; gives the last state."""
        states, found = run(term, limit)
        self.assertEqual((len(states), found), (count, end))
        self.assertEqual(states[0], term)
        return states[-1]

    def test_the_example(self):
        states, end = run(expand(read("(if (< 2 1) 7 (+ 3 4))")), 10)
        self.assertEqual((len(states), end, states[-1]), (4, "value", ("int", 7, (-1, (), -1))))

    def test_the_kind_of_the_result(self):
        result = run(num(1), 3)
        self.assertEqual([type(result), type(result[0]), type(result[1])], [tuple, list, str])
        self.assertEqual(result, ([num(1)], "value"))

    def test_the_states_one_by_one(self):
        for text, shapes, end in (
                ("(if (< 2 1) 7 (+ 3 4))", ["(if (< 2 1) 7 (+ 3 4))", "(if 0 7 (+ 3 4))", "(+ 3 4)", "7"], "value"),
                ("(let a (+ 1 2) (pair a a))", ["(let 0 (+ 1 2) (pair $0 $0))", "(let 0 3 (pair $0 $0))", "(pair 3 3)", "<3 3>"],
                 "value"),
                ("(macro or ((m a b) (let t a (if t t b)))) (let t 5 (or 0 t))", [
                    "(let 0 5 (let 1 0 (if $1 $1 $0)))", "(let 1 0 (if $1 $1 5))", "(if 0 0 5)", "5"], "value"),
                ("(+ (head (pair 1 2)) (tail 3))", ["(+ (head (pair 1 2)) (tail 3))", "(+ (head <1 2>) (tail 3))",
                                                    "(+ 1 (tail 3))"], "stuck"),
                ("(fn (a) (a 1))", ["(fn [0] ($0 1))"], "value")):
            with self.subTest(text=text):
                states, found = run(expanded(text), 50)
                self.assertEqual([shape_of(state) for state in states], shapes)
                self.assertEqual(found, end)

    def test_each_state_follows_from_the_one_before(self):
        for text in (DOWN, "((fn (f) (f (f 3))) (fn (a) (pair a a)))", "(let a 1 (let a (+ a a) (let a (+ a a) (a a))))"):
            term = expanded(text)
            states, _ = run(term, 100)
            self.assertEqual(states[0], term)
            for at, state in enumerate(states[1:]):
                self.assertEqual(step(states[at]), state)

    def test_a_limit_of_0(self):
        self.ends(num(1), 0, 1, "value")
        self.ends(pair(num(1), fn([], num(1))), 0, 1, "value")
        self.ends(expanded("(+ 1 2)"), 0, 1, "going")
        # The step that would raise an error is not tried.
        self.ends(app(num(1)), 0, 1, "going")
        self.ends(nested(101, num(1)), 0, 1, "going")

    def test_value(self):
        self.ends(expanded(DOWN), 100, 12, "value")
        self.ends(expanded(DOWN), 12, 12, "value")
        self.assertEqual(self.ends(expanded(DOWN), 11, 12, "value"), num(7))
        for value in (num(3), fn([0], ref(0)), rec(0, [], ref(0)), pair(num(1), num(2)), expanded("head")):
            for limit in (0, 1, 5):
                self.ends(value, limit, 1, "value")

    def test_going(self):
        for limit in (0, 1, 5, 300):
            self.ends(expanded(LOOP), limit, limit + 1, "going")
        self.ends(expanded(DOWN), 10, 11, "going")
        # The run is at its end before it is found out that the last state is stuck.
        self.ends(expanded("(1 (+ 1 2))"), 1, 2, "going")

    def test_stuck(self):
        self.ends(app(num(1)), 1, 1, "stuck")
        self.ends(expanded("(1 (+ 1 2))"), 2, 2, "stuck")
        self.ends(expanded("(1 (+ 1 2))"), 50, 2, "stuck")
        self.ends(expanded("(let a 500000000 (* a (+ 1 1)))"), 5, 3, "stuck")
        self.ends(expanded("(let a 500000000 (+ a a))"), 5, 2, "stuck")

    def test_limit_before_a_step(self):
        self.ends(nested(101, num(1)), 1, 1, "limit")
        self.ends(nested(100, app("+", num(1), num(2))), 9, 1, "limit")
        self.ends(nested(99, app("+", num(1), num(2))), 9, 2, "stuck")
        self.ends(cond(num(1), num(2), wide(2998)), 9, 1, "limit")
        self.ends(cond(num(1), num(2), wide(2997)), 9, 2, "value")

    def test_limit_after_a_step(self):
        term = let(0, wide(1500), app("none", ref(0), ref(0)))
        self.ends(term, 9, 1, "limit")
        self.ends(term, 1, 1, "limit")
        self.ends(term, 0, 1, "going")
        # The state that is too large is not among the states.
        last = self.ends(expanded("((rec f (a) (f (pair a a))) 1)"), 200, 21, "limit")
        self.assertEqual(last[2][0][0], "pair")
        last = self.ends(expanded("((rec f (a) (pair a (f a))) 1)"), 200, 97, "limit")
        self.assertEqual(last[0], "app")

    def test_the_last_state_is_not_measured_if_no_further_step_is_tried(self):
        for term, end in ((wide(3001), "value"), (fn([], nested(100, num(1))), "value"), (nested(101, num(1)), "going"),
                          (app("pair", wide(3000), num(1)), "going"), (nested(3000, num(1)), "going")):
            states, found = run(term, 0)
            self.assertTrue(found == end and len(states) == 1)
            states, found = run(term, 1)
            self.assertTrue(found == "limit" and len(states) == 1)

    def test_a_run_of_exactly_the_limit(self):
        term = expanded("(+ 1 (+ 2 (+ 3 4)))")
        for limit, count, end in ((0, 1, "going"), (1, 2, "going"), (2, 3, "going"), (3, 4, "value"), (4, 4, "value")):
            self.ends(term, limit, count, end)

    def test_macros_leave_nothing_behind_but_origins(self):
        source = expanded("(macro sq ((m e) (let t e (* t t)))) (let t 3 (sq (sq t)))")
        states, end = run(source, 99)
        self.assertEqual(end, "value")
        self.assertEqual(states[-1], num(81))
        self.assertEqual([state[-1] for state in states], [
            (-1, (), -1), (0, (0,), 0), (0, (0,), 0), (0, (0,), 0), (0, (), -1), (-1, (), -1)])


if __name__ == "__main__":
    unittest.main()
