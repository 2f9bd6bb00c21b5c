import unittest

from sugartrue.errors import FormError, LimitError, MatchError, ScopeError
from sugartrue.expanding import expand
from sugartrue.machine import run
from sugartrue.reading import read
from sugartrue.showing import show
from support import ShowCase

ADD = "(macro add ((m e) (+ e 1)))"
LOOP = "((rec f (n) (f (+ n 1))) 0)"


def nested(depth, innermost):
    """Applications in which so many parentheses are open around the innermost expression."""
    return "(+ 1 " * depth + innermost + ")" * depth


class Exactly(ShowCase):
    """Point 29."""

    def test_what_a_use_introduced_remains(self):
        self.shows("(macro m ((m e) (if e 7 8))) (m (+ 1 2))", "(m (+ 1 2))", "(m 3)", None)
        self.shows("(macro m ((m e) (if e head tail))) (m (+ 1 2))", "(m (+ 1 2))", "(m 3)", None)
        self.shows("(macro m ((m e) (if e (fn (x) (x)) 8))) (m (+ 1 2))", "(m (+ 1 2))", "(m 3)", None)
        self.shows("(macro m ((m e) (if 1 (+ e 0) 8))) (m (+ 1 2))", "(m (+ 1 2))", None, None, "3")
        self.shows("(macro m ((m e) (let t 7 (pair t e)))) (tail (m (+ 1 2)))", "(tail (m (+ 1 2)))", None, None, None, "3")

    def test_only_a_list_or_only_a_name_remains(self):
        self.shows("(macro m ((m a b) (if 1 (a b) 2))) (m - 5)", "(m - 5)", None)
        self.shows("(macro m ((m a) (if 1 (let t a t) 2))) (m 5)", "(m 5)", None, "5")
        self.shows("(macro call ((m f a) (f a))) (macro m ((m f a) ((fn (g) (g a)) f))) (m (fn (x) (call x x)) +)",
                   "(m (fn (x) (call x x)) +)", None, "(call + +)")

    def test_uses_of_a_macro_of_a_with(self):
        self.shows("(with w (((w e) (+ e 1))) (w (* 2 3)))", None, None, "7")
        self.shows("(with w (((w e) e)) (w (* 2 3)))", "(* 2 3)", "6")
        self.shows("(with w (((w) 5)) (w))", None)
        self.shows("(with w (((w) 5)) (+ (w) 1))", None, "6")
        self.shows("(with w (((w f e) (f e))) (w - 5))", None)
        self.shows("(with w (((w) head)) ((w) (pair 1 2)))", None, None, "1")
        self.shows("(with w (((w _ e) e)) (w 0 (+ 1 2)))", "(+ 1 2)", "3")

    def test_uses_of_a_macro_of_a_with_within_uses_of_a_definition(self):
        self.shows(ADD + "(with w (((w e) e)) (add (w (* 2 3))))", "(add (* 2 3))", "(add 6)", "7")
        self.shows(ADD + "(with w (((w e) (* e 2))) (add (w (* 2 3))))", None, None, "(add 12)", "13")
        self.shows(ADD + "(with w (((w e) e)) (w (add (w (* 2 3)))))", "(add (* 2 3))", "(add 6)", "7")
        self.shows(ADD + "(with w (((w e) (add e))) (w (* 2 3)))", None, None, "7")
        self.shows(ADD + "(with w (((w f e) (f e))) (w add (* 2 3)))", None, None, "7")
        self.shows("(macro m ((m k e) (with k (((k) 1)) e))) (m q (+ 1 2))", None, "3")

    def test_a_rule_with_a_variable_that_does_not_occur_in_the_template(self):
        self.shows("(macro m ((m e f) (+ e 1))) (m (+ 2 3) 9)", None, None, "6")
        self.shows("(macro m ((m e (f ...) ...) (+ e 1))) (m (+ 2 3))", None, None, "6")
        self.shows("(macro m ((m e f) (pair e f))) (m (+ 2 3) 9)", "(m (+ 2 3) 9)", "(m 5 9)", "(pair 5 9)")
        # Another rule of the same macro may be put back.
        self.shows("(macro m ((m e f) (+ e 1)) ((m e) (+ e 2))) (pair (m (+ 1 1)) (m 1 2))", None, None, None, "(pair 4 2)",
                   "(pair 4 2)")
        self.shows("(macro m ((m e f) (+ e 1)) ((m e) (+ e 2))) (m (+ 1 1))", "(m (+ 1 1))", "(m 2)", "4")

    def test_a_rule_with_an_item_that_matches_everything(self):
        self.shows("(macro m ((m e _) (+ e 1))) (m (+ 2 3) 9)", None, None, "6")
        self.shows("(macro m ((m (e (_)) ...) (+ e ...))) (m (1 (9)) (2 (9)))", None, "3")
        self.shows("(macro m ((m (e (_)) ...) (+ e ... 3))) (m)", None)
        # The first item of a pattern does not count.
        self.shows("(macro m ((_ e) (+ e 1))) (m (+ 2 3))", "(m (+ 2 3))", "(m 5)", "6")

    def test_within_another_use(self):
        self.shows(ADD + "(macro m ((m _) 1)) (add (m 2))", None, "2")
        self.shows(ADD + "(macro m ((m _) 1)) (add (if 1 2 (m 2)))", None, "(add 2)", "3")

    def test_another_rule_would_match(self):
        self.shows("(macro m ((m 0) 7) ((m e) (+ e 1))) (m (- 2 2))", "(m (- 2 2))", None, "1")
        self.shows("(macro m ((m (f a)) (f a)) ((m e) (fn () (+ e 1)))) (let x 1 (m x))", "(let x 1 (m x))", "(m 1)")
        self.shows("(macro m ((m (f a b)) (f b)) ((m e) (fn () e))) (let x (pair 1 2) (m x))",
                   "(let x (pair 1 2) (m x))", "(let x (pair 1 2) (m x))", None)

    def test_variables_that_would_be_caught(self):
        # The use of the macro would be caught by the parameter of the same text.
        self.shows(ADD + "(let f (fn (y) (add y)) (fn (add) (f add)))", "(let f (fn (y) (add y)) (fn (add) (f add)))", None)
        self.shows(ADD + "(let f (fn (y) (add y)) (fn (sub) (f sub)))", "(let f (fn (y) (add y)) (fn (sub) (f sub)))",
                   "(fn (sub) ((fn (y) (add y)) sub))")
        self.shows("((fn (f) (fn (head) (f head))) head)", "((fn (f) (fn (head) (f head))) head)", None)
        self.shows("((fn (f) (fn (tail) (f tail))) head)", "((fn (f) (fn (tail) (f tail))) head)", "(fn (tail) (head tail))")
        self.shows("(macro m ((m e f) (pair (fn (x) (e x)) f))) (let g head (fn (head) (m g head)))",
                   "(let g head (fn (head) (m g head)))", None)

    def test_pairs(self):
        self.shows("(macro mk ((m a b) (pair a b))) (macro pair ((p a b) (0 a b))) (mk 1 (mk 2 3))", "(mk 1 (mk 2 3))", None, None)
        self.shows("(macro mk ((m a b) (pair a b))) (macro pair ((p a b) (0 a b))) (head (mk 1 2))", "(head (mk 1 2))", None, "1")
        self.shows("(let p (pair 1 2) (fn (pair) p))", "(let p (pair 1 2) (fn (pair) p))", "(let p (pair 1 2) (fn (pair) p))", None)
        self.shows("(let p (pair 1 2) (fn (a) p))", "(let p (pair 1 2) (fn (a) p))", "(let p (pair 1 2) (fn (a) p))",
                   "(fn (a) (pair 1 2))")
        self.shows("(fn (pair) (pair 1 2))", "(fn (pair) (pair 1 2))")
        # A pair that no use introduced does not match a list of a template.
        self.shows("(macro m ((m a b e) (fn () (pair a b) e)) ((m a b) (+ 1 (head (pair a b))))) (m (+ 1 1) 3)", "(m (+ 1 1) 3)",
                   "(m 2 3)", None, None, "3")


class NotShown(ShowCase):
    """Point 30."""

    def test_4000_characters_and_4001(self):
        for definitions in ("", ADD + "\n", "(macro big ((m) (0" + " 123" * 300 + ")))\n"):
            free = 4000 - len(definitions) - len("(+)\n")
            expression = "(+" + " 1" * (free // 2 - 4) + " " + "1" * (7 + free % 2) + ")"
            self.assertEqual(len(definitions + expression) + 1, 4000)
            self.shows(definitions + expression, expression)
            self.shows(definitions + expression.replace("(+", "(+ "), expression)
            self.shows(definitions + expression.replace(" 1 ", " 12 ", 1), None)

    def test_later_states_that_are_longer(self):
        ones = " 1" * 1900
        self.shows(f"(let a (fn () (0{ones})) (pair a 2))", f"(let a (fn () (0{ones})) (pair a 2))", f"(pair (fn () (0{ones})) 2)",
                   f"(pair (fn () (0{ones})) 2)")
        long = " 1234" * 500
        self.shows(f"(let a (fn () (0{long})) (tail (pair a (pair a (+ 1 2)))))", f"(let a (fn () (0{long})) (tail (pair a (pair a (+ 1 2)))))",
                   *[None] * 4, f"(pair (fn () (0{long})) 3)")

    def test_nested_more_than_30_deep(self):
        inner = nested(28, "x")
        self.shows(f"(let x 5 (fn () {inner}))", f"(let x 5 (fn () {inner}))", f"(fn () {inner.replace('x', '5')})")
        # With the value in its place there are 30 parentheses open, or 31.
        for depth, is_shown in ((27, True), (28, False)):
            body = nested(depth, "x")
            last = f"(fn () {body.replace('x', '(fn () (1))')})"
            self.shows(f"(let x (fn () (1)) (fn () {body}))", f"(let x (fn () (1)) (fn () {body}))", last if is_shown else None)

    def test_pairs_that_are_nested_deep(self):
        expressions, count = self.shown("((rec f (n a) (if n (f (- n 1) (pair n a)) 5)) 40 0)")
        self.assertEqual(count, 163)
        for at in range(162):
            # Each round of four steps nests the pairs one deeper; they stand in so many other lists.
            around = (1, 3, 2, 2)[at - at // 4 * 4]
            self.assertEqual(at in expressions, around + at // 4 <= 30, at)
        self.assertEqual(expressions[162], "5")

    def test_expressions_that_are_nested_too_deep_to_be_expanded(self):
        # Each use nests its item five expressions deeper, but only one parenthesis.
        definition = "(macro w ((w e) (+ 1 (+ 1 (+ 1 (+ 1 e))))))"
        outer = "(w " * 6 + "f" + ")" * 6
        for count, is_shown in ((5, True), (6, False)):
            function = "(fn () " + "(w " * count + "1" + ")" * count + ")"
            self.shows(f"{definition} (let f {function} (fn () {outer}))", f"(let f {function} (fn () {outer}))",
                       f"(fn () {outer.replace('f', function)})" if is_shown else None)

    def test_programs_that_do_not_expand(self):
        for template in ("q", "(q)", "(if 1)", "(m 0)", "(m)", "(m 0 0)", "let", "()"):
            self.shows(f"(macro m ((m 0) {template}) ((m e) (+ e 1))) (m (- 2 2))", "(m (- 2 2))", None, "1")
        self.shows("(macro m ((m 0 (a ...) (b ...)) (+ (a b) ...)) ((m e (a ...) (b ...)) (pair e (fn () ((0 a ...) (0 b ...))))))"
                   " (m (- 1 1) (1) ())", "(m (- 1 1) (1) ())", None, None)
        self.shows("(macro m ((m 0) 8) ((m e) (+ e 1))) (m (- 2 2))", "(m (- 2 2))", None, "1")
        self.shows("(macro m ((m 0) (+ 0 1)) ((m e) (+ e 1))) (m (- 2 2))", "(m (- 2 2))", "(m 0)", "1")


class WithoutMacros(ShowCase):
    """Point 30: every state of a program without macros is shown."""

    def all_are_shown(self, text, count):
        expressions, found = self.shown(text)
        self.assertEqual(found, count)
        self.assertEqual(list(expressions), list(range(count)))
        self.assertEqual(expressions[0], text)

    def test_all_states_are_shown(self):
        self.all_are_shown("5", 1)
        self.all_are_shown("(fn (x) ((fn (x) (x x)) x))", 1)
        self.all_are_shown("((rec f (n a) (if n (f (- n 1) (* n a)) a)) 5 1)", 23)
        self.all_are_shown("(let x 1 (let x (+ x x) (let y x (fn (x) (pair x y)))))", 5)
        self.all_are_shown("(((fn (f) (fn (x) (f (f x)))) (fn (x) (pair x x))) (pair 1 none))", 8)
        self.all_are_shown("((fn (x) (x (fn (y) (x y)))) (fn (y) (fn (x) (y (fn (y) x)))))", 3)
        self.all_are_shown(LOOP, 201)
        self.all_are_shown("((fn (w) (w w)) (fn (w) (w w)))", 201)
        self.all_are_shown("(+ (head (pair 1 (fn (a) a))) (tail 3))", 3)
        self.all_are_shown("(let macro (fn (twice) (twice twice)) (macro (fn (fresh) fresh)))", 4)

    def test_variables_with_texts_of_forms_and_primitives(self):
        self.shows("(let if 5 (+ if 1))", "(let if 5 (+ if 1))", "(+ 5 1)", "6")
        self.shows("(fn (let) (let 1))", "(fn (let) (let 1))")
        self.shows("((fn (+) (+ 1 2)) -)", "((fn (+) (+ 1 2)) -)", "(- 1 2)", "-1")
        self.shows("((fn (+) (fn (-) (+ 1 -))) -)", "((fn (+) (fn (-) (+ 1 -))) -)", None)
        self.shows("(let f (fn (x) (if x 1 2)) (fn (if) (f if)))", "(let f (fn (x) (if x 1 2)) (fn (if) (f if)))", None)
        self.shows("(let f (fn (x) (if x 1 2)) (fn (if) (if 5)))", "(let f (fn (x) (if x 1 2)) (fn (if) (if 5)))", "(fn (if) (if 5))")
        self.shows("(let f (fn (x) (x)) (fn (fn) (fn 1)))", "(let f (fn (x) (x)) (fn (fn) (fn 1)))", "(fn (fn) (fn 1))")
        self.shows("(let f (fn (x) (x)) (fn (fn) f))", "(let f (fn (x) (x)) (fn (fn) f))", None)


class Show(ShowCase):
    """What the interface says of show."""

    def test_limits(self):
        text = ADD + "(add (* 2 3))"
        front = ADD + "\n"
        whole = [(0, front + "(add (* 2 3))\n"), (1, front + "(add 6)\n"), (2, front + "7\n")]
        for limit in (0, 1, 2, 3, 4, 1000):
            self.assertEqual(show(read(text), limit), whole[:limit + 1])
        for limit in (0, 1, 7):
            self.assertEqual(show(read("5"), limit), [(0, "5\n")])
            self.assertEqual(show(read("(1 2)"), limit), [(0, "(1 2)\n")])
            self.assertEqual([at for at, _ in show(read(LOOP), limit * 50)], list(range(limit * 50 + 1)))

    def test_the_kinds_of_the_result(self):
        found = show(read("(+ 1 2)"), 5)
        self.assertEqual([type(found), *[type(part) for part in found]], [list, tuple, tuple])
        self.assertEqual([[type(at), type(text)] for at, text in found], [[int, str], [int, str]])
        self.assertEqual(show(read("(with w (((w) 5)) (w))"), 5), [])

    def test_indexes_are_the_places_in_the_run(self):
        text = "(macro either ((m a b) (let t a (if t t b)))) (pair (either 0 (+ 1 1)) (either (- 1 1) (+ 4 4)))"
        expressions, count = self.shown(text)
        self.assertEqual(count, 9)
        self.assertEqual(expressions, {
            0: "(pair (either 0 (+ 1 1)) (either (- 1 1) (+ 4 4)))", 2: "(pair (+ 1 1) (either (- 1 1) (+ 4 4)))",
            3: "(pair 2 (either (- 1 1) (+ 4 4)))", 4: "(pair 2 (either 0 (+ 4 4)))", 6: "(pair 2 (+ 4 4))", 7: "(pair 2 8)",
            8: "(pair 2 8)"})

    def test_a_first_state_that_is_too_large_for_a_step(self):
        text = "(macro m2 ((m) (0" + " 1" * 90 + "))) (macro m ((m) (0" + " (m2)" * 40 + "))) (m)"
        self.assertEqual(run(expand(read(text)), 9)[1], "limit")
        self.shows(text, "(m)")

    def test_errors(self):
        for kind, text in ((FormError, ""), (FormError, "5 5"), (FormError, "(fn (a a) 1)"), (FormError, "(macro m ((m x x) 1)) 5"),
                           (FormError, "if"), (MatchError, "(macro m ((m 1) 1)) (m 2)"), (ScopeError, "x"), (ScopeError, "(let x x 1)"),
                           (MatchError, "(macro m ((m (a ...) (b ...)) (0 (a b) ...))) (m (1) ())"),
                           (LimitError, "(macro m ((m) (m))) (m)"), (LimitError, "(macro f ((m) (+" + " 1" * 599 + "))) (f)")):
            for limit in (0, 5):
                with self.subTest(text=text, limit=limit):
                    with self.assertRaises(kind) as caught:
                        show(read(text), limit)
                    self.assertIs(type(caught.exception), kind)


if __name__ == "__main__":
    unittest.main()
