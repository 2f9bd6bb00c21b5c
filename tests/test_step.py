import unittest

from build import NOWHERE, app, cond, fn, let, marked, nested, num, pair, prim, rec, ref, wide
from sugartrue.errors import LimitError, StuckError
from sugartrue.machine import step
from support import expanded, shape_of

PRIMITIVES = ("+", "-", "*", "<", "=", "pair", "head", "tail", "none")
ADD = app("+", num(1), num(2))
BIG = 999999999
VALUES = (num(0), num(-7), num(BIG), *[prim(name) for name in PRIMITIVES], fn([], ADD), fn([0, 1], app(ref(1), ref(0))),
          rec(0, [], app(ref(0))), rec(0, [1], ADD), pair(num(1), num(2)), pair(pair(fn([0], ref(0)), prim("+")), num(3)))


def at(number):
    """The origin that a part of a marked term has."""
    return (number, (number, 7), number + 1)


def pairs(depth, innermost):
    value = innermost
    for _ in range(depth):
        value = pair(num(1), value)
    return value


class Case(unittest.TestCase):
    def makes(self, term, expected):
        with self.subTest(term=term):
            self.assertEqual(step(term), expected)

    def steps(self, text, *expected):
        """A program makes these steps; behind the last one is a value, or "stuck" stands for the end."""
        with self.subTest(text=text):
            term = expanded(text)
            for shape in expected:
                if shape == "stuck":
                    self.assertRaises(StuckError, step, term)
                    return
                term = step(term)
                self.assertEqual(shape_of(term), shape)
            self.assertIsNone(step(term))

    def fails(self, kind, term):
        with self.assertRaises(kind) as caught:
            step(term)
        self.assertIs(type(caught.exception), kind)


class Rules(Case):
    """Point 25."""

    def test_values_make_no_step(self):
        for value in VALUES:
            with self.subTest(value=value):
                self.assertIsNone(step(value))

    def test_only_a_pair_of_values_is_a_value(self):
        for term in (pair(ADD, num(1)), pair(num(1), ADD), pair(num(1), pair(ADD, num(1)))):
            self.fails(StuckError, app("head", term))

    def test_let(self):
        self.makes(let(0, num(1), app(ref(0), ref(0))), app(num(1), num(1)))
        self.makes(let(0, num(1), num(2)), num(2))
        for value in VALUES:
            self.makes(let(3, value, fn([4], app(ref(3), ref(4)))), fn([4], app(value, ref(4))))
        self.steps("(let a 1 (let a (+ a a) (let b a (- a b))))", "(let 1 (+ 1 1) (let 2 $1 (- $1 $2)))",
                   "(let 1 2 (let 2 $1 (- $1 $2)))", "(let 2 2 (- 2 $2))", "(- 2 2)", "0")
        # The body may contain the same variable again.
        self.makes(let(0, num(1), app(ref(0), let(0, ref(0), ref(0)), fn([0], ref(0)))),
                   app(num(1), let(0, num(1), ref(0)), fn([0], ref(0))))

    def test_if(self):
        self.makes(cond(num(0), num(1), num(2)), num(2))
        for value in VALUES[1:]:
            self.makes(cond(value, num(1), num(2)), num(1))
        for value in (num(1), num(-1), prim("none"), prim("+"), fn([], num(0)), pair(num(0), num(0))):
            self.makes(cond(value, ADD, app(num(1))), ADD)
        self.makes(cond(num(0), app(num(1)), ADD), ADD)
        self.steps("(if (- 2 2) (1 2) (+ 3 4))", "(if 0 (1 2) (+ 3 4))", "(+ 3 4)", "7")
        self.steps("(if (< 1 2) (+ 3 4) (1 2))", "(if 1 (+ 3 4) (1 2))", "(+ 3 4)", "7")

    def test_functions(self):
        self.makes(app(fn([], ADD)), ADD)
        self.makes(app(fn([0], app(ref(0), ref(0))), num(5)), app(num(5), num(5)))
        self.makes(app(fn([0, 1, 2], app(ref(2), ref(0), ref(1))), num(5), num(6), prim("-")), app("-", num(5), num(6)))
        self.makes(app(fn([0, 1], fn([0], app(ref(0), ref(1)))), num(5), num(6)), fn([0], app(ref(0), num(6))))
        for value in VALUES:
            self.makes(app(fn([0], ref(0)), value), value)
        self.steps("((fn (f a) (f (f a))) (fn (b) (+ b 1)) 5)", "((fn [2] (+ $2 1)) ((fn [2] (+ $2 1)) 5))",
                   "((fn [2] (+ $2 1)) (+ 5 1))", "((fn [2] (+ $2 1)) 6)", "(+ 6 1)", "7")

    def test_recursive_functions(self):
        alone = rec(0, [], app(ref(0)))
        self.makes(app(alone), app(alone))
        both = rec(0, [1, 2], app(ref(0), ref(2), ref(1)))
        self.makes(app(both, num(5), num(6)), app(both, num(6), num(5)))
        hidden = rec(0, [1], fn([0], app(ref(0), ref(1))))
        self.makes(app(hidden, num(5)), fn([0], app(ref(0), num(5))))
        self.steps("((rec f (n) (if n (f (- n 1)) f)) 1)", "(if 1 ((rec 0 [1] (if $1 ($0 (- $1 1)) $0)) (- 1 1)) "
                   "(rec 0 [1] (if $1 ($0 (- $1 1)) $0)))", "((rec 0 [1] (if $1 ($0 (- $1 1)) $0)) (- 1 1))",
                   "((rec 0 [1] (if $1 ($0 (- $1 1)) $0)) 0)", "(if 0 ((rec 0 [1] (if $1 ($0 (- $1 1)) $0)) (- 0 1)) "
                   "(rec 0 [1] (if $1 ($0 (- $1 1)) $0)))", "(rec 0 [1] (if $1 ($0 (- $1 1)) $0))")

    def test_the_number_of_arguments_of_functions(self):
        for count in range(4):
            for given in range(6):
                args = [num(4)] * given
                for function in (fn(list(range(count)), num(5)), rec(9, list(range(count)), num(5))):
                    if given == count:
                        self.makes(app(function, *args), num(5))
                    else:
                        self.fails(StuckError, app(function, *args))

    def test_arithmetic(self):
        for a, b in ((0, 0), (2, 3), (3, 2), (-4, 5), (5, -4), (-6, -7), (31622, 31622), (-31622, 31622)):
            self.makes(app("+", num(a), num(b)), num(a + b))
            self.makes(app("-", num(a), num(b)), num(a - b))
            self.makes(app("*", num(a), num(b)), num(a * b))
            self.makes(app("<", num(a), num(b)), num(1 if a < b else 0))
            self.makes(app("=", num(a), num(b)), num(1 if a == b else 0))
        self.makes(app("=", num(-3), num(-3)), num(1))
        for name in ("<", "="):
            self.assertIs(type(step(app(name, num(1), num(1)))[1]), int)

    def test_the_range_of_results(self):
        for name, a, b, result in (("+", BIG - 1, 1, BIG), ("+", 1 - BIG, -1, -BIG), ("-", BIG, 0, BIG), ("-", -BIG, 0, -BIG),
                                   ("-", 0, BIG, -BIG), ("*", BIG, 1, BIG), ("*", BIG, -1, -BIG), ("*", 333333333, 3, BIG),
                                   ("+", BIG, -BIG, 0), ("*", 333333333, -3, -BIG)):
            self.makes(app(name, num(a), num(b)), num(result))
        for name, a, b in (("+", BIG, 1), ("+", -BIG, -1), ("-", BIG, -1), ("-", -BIG, 1), ("*", 500000000, 2),
                           ("*", -500000000, 2), ("*", BIG, BIG), ("+", BIG, BIG)):
            self.fails(StuckError, app(name, num(a), num(b)))
        self.makes(app("<", num(-BIG), num(BIG)), num(1))

    def test_pairs(self):
        for first in VALUES:
            for second in (num(1), fn([0], ref(0)), pair(num(1), num(2))):
                self.makes(app("pair", first, second), pair(first, second))
                self.makes(app("head", pair(first, second)), first)
                self.makes(app("tail", pair(first, second)), second)
        self.steps("(head (tail (pair 1 (pair 2 3))))", "(head (tail (pair 1 <2 3>)))", "(head (tail <1 <2 3>>))",
                   "(head <2 3>)", "2")

    def test_primitives_with_other_arguments(self):
        others = (prim("+"), fn([0], ref(0)), rec(0, [], num(1)), pair(num(1), num(2)))
        for name in ("+", "-", "*", "<", "="):
            for other in others:
                self.fails(StuckError, app(name, other, num(1)))
                self.fails(StuckError, app(name, num(1), other))
                self.fails(StuckError, app(name, other, other))
        for name in ("head", "tail"):
            for other in (num(0), num(5), *others[:-1]):
                self.fails(StuckError, app(name, other))

    def test_primitives_with_another_number_of_arguments(self):
        for count in range(5):
            for name in PRIMITIVES:
                if (name in ("head", "tail") or count != 2) or name == "none":
                    self.fails(StuckError, app(name, *[num(1)] * count))
                if (name not in ("head", "tail") or count != 1) and (name != "pair" or count != 2):
                    self.fails(StuckError, app(name, *[pair(num(1), num(2))] * count))

    def test_what_is_no_function(self):
        for function in (num(0), num(3), pair(num(1), num(2)), pair(fn([0], ref(0)), num(1)), prim("none")):
            for args in ([], [num(1)], [num(1), num(2)], [pair(num(1), num(2))]):
                self.fails(StuckError, app(function, *args))


class Order(Case):
    """Point 25: the place of a step."""

    def test_from_left_to_right(self):
        self.steps("(+ (+ 1 2) (+ 3 4))", "(+ 3 (+ 3 4))", "(+ 3 7)", "10")
        self.steps("(pair (let a 1 a) (if 0 2 3))", "(pair 1 (if 0 2 3))", "(pair 1 3)", "<1 3>")
        self.steps("((fn (a b c) b) (+ 1 1) (+ 2 2) (+ 3 3))", "((fn [0 1 2] $1) 2 (+ 2 2) (+ 3 3))",
                   "((fn [0 1 2] $1) 2 4 (+ 3 3))", "((fn [0 1 2] $1) 2 4 6)", "4")

    def test_the_function_before_the_arguments(self):
        self.steps("((if 1 + -) (+ 1 2) 4)", "(+ (+ 1 2) 4)", "(+ 3 4)", "7")
        self.steps("((head (pair + 1)) (+ 1 2) 4)", "((head <+ 1>) (+ 1 2) 4)", "(+ (+ 1 2) 4)", "(+ 3 4)", "7")
        self.steps("(((fn (a) a) +) (+ 1 2) (+ 3 4))", "(+ (+ 1 2) (+ 3 4))", "(+ 3 (+ 3 4))", "(+ 3 7)", "10")

    def test_from_the_inside(self):
        self.steps("(+ 1 (* 2 (- 4 1)))", "(+ 1 (* 2 3))", "(+ 1 6)", "7")
        self.steps("(let a (let b (+ 1 2) b) (+ a a))", "(let 1 (let 0 3 $0) (+ $1 $1))", "(let 1 3 (+ $1 $1))", "(+ 3 3)", "6")
        self.steps("(if (if (+ 0 0) 1 0) 2 3)", "(if (if 0 1 0) 2 3)", "(if 0 2 3)", "3")
        self.steps("((fn (a) 5) (+ 1 2))", "((fn [0] 5) 3)", "5")

    def test_nothing_is_done_in_bodies_and_branches(self):
        self.steps("(let a 1 (+ 1 2))", "(+ 1 2)", "3")
        self.steps("(if 1 (+ 1 2) (+ 3 4))", "(+ 1 2)", "3")
        self.steps("((fn (a) (+ 1 2)) 5)", "(+ 1 2)", "3")
        self.steps("(pair (fn () (+ 1 2)) (rec f () (+ 1 2)))", "<(fn [] (+ 1 2)) (rec 0 [] (+ 1 2))>")
        self.steps("(if (fn () (+ 1 2)) 4 (+ 3 4))", "4")

    def test_a_part_that_is_stuck(self):
        for text in ("(1 2)", "(+ (1 2) 3)", "(+ 3 (1 2))", "(let a (1 2) a)", "(if (1 2) 3 4)", "((1 2) 3)", "(head (head 1))",
                     "(pair (if (head 1) 3 4) 2)"):
            self.steps(text, "stuck")
        # What must be made a value first keeps all that comes later from a step.
        for text in ("((1 2) (+ 3 4))", "(+ (1 2) (+ 3 4))", "(pair (head 1) (+ 3 4))", "(let a (1 2) (+ 3 4))",
                     "(if (1 2) (+ 3 4) (+ 3 4))", "(+ 5 (+ (1 2) (+ 3 4)))"):
            self.steps(text, "stuck")
        self.steps("(+ (+ 3 4) (1 2))", "(+ 7 (1 2))", "stuck")
        self.steps("((+ 3 4) (+ 1 2))", "(7 (+ 1 2))", "(7 3)", "stuck")
        self.steps("((fn () 1) (+ 1 2))", "((fn [] 1) 3)", "stuck")
        self.steps("(+ (+ 1 2))", "(+ 3)", "stuck")


class Origins(Case):
    """Point 25: origins."""

    def test_what_a_primitive_makes(self):
        for name, result in (("+", num(5)), ("-", num(1)), ("*", num(6)), ("<", num(0)), ("=", num(0))):
            self.makes(marked(app(name, num(3), num(2))), result)
        self.makes(marked(app("pair", num(1), fn([0], ref(0)))),
                   ("pair", ("int", 1, at(2)), ("fn", [0], ("ref", 0, at(4)), at(3)), NOWHERE))

    def test_the_parts_of_a_pair(self):
        term = marked(app("head", pair(num(1), pair(num(2), num(3)))))
        self.makes(term, ("int", 1, at(3)))
        self.makes(("app", prim("tail"), term[2], NOWHERE),
                   ("pair", ("int", 2, at(5)), ("int", 3, at(6)), at(4)))

    def test_let_if_and_functions(self):
        self.makes(marked(let(0, num(1), app(ref(0), fn([1], ref(0))))),
                   ("app", ("int", 1, at(1)), [("fn", [1], ("int", 1, at(1)), at(4))], at(2)))
        self.makes(marked(cond(num(1), app(num(2)), num(3))), ("app", ("int", 2, at(3)), [], at(2)))
        self.makes(marked(cond(num(0), num(2), app(num(3)))), ("app", ("int", 3, at(4)), [], at(3)))
        self.makes(marked(app(fn([0], app(ref(0))), num(5))), ("app", ("int", 5, at(4)), [], at(2)))
        term = marked(app(rec(0, [1], app(ref(0), ref(1))), num(5)))
        self.makes(term, ("app", term[1], [("int", 5, at(5))], at(2)))

    def test_the_terms_around_the_place_of_the_step(self):
        term = marked(app("+", let(0, cond(app("+", num(1), num(2)), num(3), num(4)), ref(0)), app(num(5))))
        self.makes(term, ("app", ("prim", "+", at(1)), [
            ("let", 0, ("if", num(3), ("int", 3, at(8)), ("int", 4, at(9)), at(3)), ("ref", 0, at(10)), at(2)),
            ("app", ("int", 5, at(12)), [], at(11))], at(0)))
        term = marked(app(app(app("-", num(2), num(2)), num(1)), num(1)))
        self.makes(term, ("app", ("app", num(0), [("int", 1, at(6))], at(1)), [("int", 1, at(7))], at(0)))

    def test_a_term_from_a_macro(self):
        term = expanded("(macro m ((m e) (let t e (+ t 1)))) (m 5)")
        term = step(term)
        self.assertEqual(term, ("app", ("prim", "+", (0, (), -1)), [("int", 5, NOWHERE), ("int", 1, (0, (), -1))], (0, (), -1)))
        self.assertEqual(step(term), num(6))


class Limits(Case):
    """Point 26."""

    def test_the_depth_before_a_step(self):
        self.makes(nested(99, ADD), nested(99, num(3)))
        self.fails(LimitError, nested(100, ADD))
        self.fails(LimitError, nested(5000, ADD))
        # The function of an application is as deep as its arguments.
        self.makes(nested(98, app(fn([], num(3)))), nested(98, num(3)))
        self.fails(LimitError, nested(99, app(fn([], num(3)))))

    def test_every_part_is_one_deeper(self):
        deep = pairs(99, num(1))
        for term, after in ((let(0, deep, num(2)), num(2)), (let(0, num(2), deep), deep), (cond(deep, num(2), num(3)), num(2)),
                            (cond(num(1), deep, num(3)), deep), (cond(num(1), num(3), deep), num(3)),
                            (app("pair", num(1), deep), pair(num(1), deep)), (app(fn([], num(1)), deep), None),
                            (fn([], deep), None), (rec(0, [], deep), None), (pair(deep, num(1)), None), (pair(num(1), deep), None)):
            if term[0] == "app" and after is None:
                self.fails(StuckError, term)
            else:
                self.makes(term, after)
        deep = pairs(100, num(1))
        for term in (let(0, deep, num(2)), let(0, num(2), deep), cond(deep, num(2), num(3)), cond(num(1), deep, num(3)),
                     cond(num(1), num(3), deep), app("pair", num(1), deep), app(fn([], num(1)), deep), fn([], deep),
                     rec(0, [], deep), pair(deep, num(1)), pair(num(1), deep), app(deep)):
            self.fails(LimitError, term)

    def test_the_depth_of_values(self):
        self.makes(pairs(100, num(1)), None)
        self.fails(LimitError, pairs(101, num(1)))
        self.makes(fn([], nested(99, num(1))), None)
        self.fails(LimitError, fn([], nested(100, num(1))))

    def test_the_depth_of_what_is_stuck(self):
        self.fails(StuckError, nested(100, num(1)))
        self.fails(LimitError, nested(101, num(1)))

    def test_the_depth_after_a_step(self):
        self.makes(let(0, pairs(50, num(1)), nested(50, ref(0))), nested(50, pairs(50, num(1))))
        self.fails(LimitError, let(0, pairs(51, num(1)), nested(50, ref(0))))
        self.fails(LimitError, let(0, pairs(50, num(1)), nested(51, ref(0))))
        # Also if it would be a value.
        self.makes(let(0, pairs(50, num(1)), fn([], nested(49, ref(0)))), fn([], nested(49, pairs(50, num(1)))))
        self.fails(LimitError, let(0, pairs(51, num(1)), fn([], nested(49, ref(0)))))
        # Also if the step is made in a part.
        self.makes(app("+", let(0, pairs(50, num(1)), nested(49, ref(0)))), app("+", nested(49, pairs(50, num(1)))))
        self.fails(LimitError, app("+", let(0, pairs(50, num(1)), nested(50, ref(0)))))

    def test_the_parts_before_a_step(self):
        self.makes(wide(3000), None)
        self.fails(LimitError, wide(3001))
        self.makes(app("head", app("pair", num(1), wide(2995))), app("head", pair(num(1), wide(2995))))
        self.fails(LimitError, app("head", app("pair", num(1), wide(2996))))
        self.makes(cond(num(1), num(2), wide(2997)), num(2))
        self.fails(LimitError, cond(num(1), num(2), wide(2998)))
        self.makes(let(0, num(1), wide(2998)), wide(2998))
        self.fails(LimitError, let(0, num(1), wide(2999)))
        self.fails(LimitError, wide(100000))

    def test_the_parts_of_every_kind_of_term(self):
        for parts, term in ((1, num(1)), (1, prim("+")), (2, fn([7, 8], num(1))), (2, rec(7, [8, 9], num(1))),
                            (3, let(7, num(1), num(2))), (4, cond(num(1), num(2), num(3))), (2, app("+")),
                            (4, app("+", num(1), num(2))), (3, pair(num(1), num(2))), (2, fn([7], ref(7)))):
            self.makes(pair(term, wide(2999 - parts)) if term[0] in ("int", "prim", "fn", "rec", "pair")
                       else fn([], app(term, wide(2998 - parts))), None)
            self.fails(LimitError, fn([], app(term, wide(2999 - parts))))

    def test_the_parts_of_what_is_stuck(self):
        self.fails(StuckError, app(num(0), *[num(1)] * 2998))
        self.fails(LimitError, app(num(0), *[num(1)] * 2999))
        self.fails(StuckError, app("+", wide(2998)))
        self.fails(LimitError, app("+", wide(2999)))

    def test_the_parts_after_a_step(self):
        twice = app("none", ref(0), ref(0))
        self.makes(let(0, wide(1499), twice), app("none", wide(1499), wide(1499)))
        self.fails(LimitError, let(0, wide(1500), twice))
        # Also if it would be a value.
        self.makes(let(0, wide(1498), fn([], app("none", ref(0), ref(0), num(1)))),
                   fn([], app("none", wide(1498), wide(1498), num(1))))
        self.fails(LimitError, let(0, wide(1498), fn([], app("none", ref(0), ref(0), num(1), num(1)))))
        # Also if there were more parts than can be made.
        self.fails(LimitError, let(0, wide(1400), app("none", *[ref(0)] * 1400)))

    def test_a_term_may_become_smaller(self):
        self.makes(app("head", pair(num(1), wide(2996))), num(1))
        self.makes(let(0, wide(2998), num(1)), num(1))


if __name__ == "__main__":
    unittest.main()
