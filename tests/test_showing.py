import unittest

from sugartrue.errors import FormError, LimitError, MatchError, ScopeError
from sugartrue.reading import read
from sugartrue.showing import show
from support import ShowCase

ADD = "(macro add ((m e) (+ e 1)))"
DELAY = "(macro delay ((m e) (fn () e)))"
TWICE = "(macro twice ((m e) (let t e (+ t t))))"
OUTER = "(macro outer ((m e) (add (* e 2))))"


class Forms(ShowCase):
    """Point 28: parts that no use introduced."""

    def test_the_example(self):
        program = read("(macro either ((m a b) (let t a (if t t b)))) (either 0 (+ 1 1))")
        self.assertEqual([(at, text.split("\n")[1]) for at, text in show(program, 9)],
                         [(0, "(either 0 (+ 1 1))"), (2, "(+ 1 1)"), (3, "2")])

    def test_integers_and_primitives(self):
        for text in ("0", "-7", "999999999", "+", "=", "head", "none"):
            self.shows(text, text)
        self.shows("(if 1 none 2)", "(if 1 none 2)", "none")

    def test_functions(self):
        for text in ("(fn () 1)", "(fn (a) a)", "(fn (a b) (b a 1))", "(rec f () f)", "(rec f (a b) (f b a))", "(fn (a) (fn (a) a))"):
            self.shows(text, text)

    def test_let_and_if(self):
        self.shows("(let x (+ 1 2) (if x (pair x none) 7))", "(let x (+ 1 2) (if x (pair x none) 7))",
                   "(let x 3 (if x (pair x none) 7))", "(if 3 (pair 3 none) 7)", "(pair 3 none)", "(pair 3 none)")

    def test_applications(self):
        self.shows("((fn (a b) (- a b)) 1 (* 2 3))", "((fn (a b) (- a b)) 1 (* 2 3))", "((fn (a b) (- a b)) 1 6)", "(- 1 6)", "-5")
        self.shows("((rec f (n) (if n f 1)) 0)", "((rec f (n) (if n f 1)) 0)", "(if 0 (rec f (n) (if n f 1)) 1)", "1")
        self.shows("(1 2)", "(1 2)")
        self.shows("(+)", "(+)")
        self.shows("(((fn () -)))", "(((fn () -)))", "(-)")

    def test_variables_have_the_texts_of_their_names(self):
        self.shows("(let x 1 (fn (y) (let x x (+ x y))))", "(let x 1 (fn (y) (let x x (+ x y))))", "(fn (y) (let x 1 (+ x y)))")
        self.shows("(let macro 5 (+ macro 1))", "(let macro 5 (+ macro 1))", "(+ 5 1)", "6")

    def test_pairs(self):
        self.shows("(pair 1 +)", "(pair 1 +)", "(pair 1 +)")
        self.shows("(pair (pair 1 2) (+ 1 2))", "(pair (pair 1 2) (+ 1 2))", "(pair (pair 1 2) (+ 1 2))", "(pair (pair 1 2) 3)",
                   "(pair (pair 1 2) 3)")
        self.shows("(tail (pair 0 (pair 1 (fn (a) a))))", "(tail (pair 0 (pair 1 (fn (a) a))))", "(tail (pair 0 (pair 1 (fn (a) a))))",
                   "(tail (pair 0 (pair 1 (fn (a) a))))", "(pair 1 (fn (a) a))")

    def test_the_definitions_stand_in_front(self):
        program = read("(macro m ((m) 1) ((m  (a b ...)) (+ a\n b ...))) (macro k ((k 0 _) m)) (+ 1 2)")
        front = "(macro m ((m) 1) ((m (a b ...)) (+ a b ...)))\n(macro k ((k 0 _) m))\n"
        self.assertEqual(show(program, 9), [(0, front + "(+ 1 2)\n"), (1, front + "3\n")])
        self.assertEqual(show(read("(+ 1 2)"), 9), [(0, "(+ 1 2)\n"), (1, "3\n")])

    def test_the_rules_of_a_with_are_not_shown(self):
        self.shows("(with m (((m) 1)) (+ 1 2))", "(+ 1 2)", "3")
        self.shows("(let x 1 (with m (((m) x)) (fn (y) x)))", "(let x 1 (fn (y) x))", "(fn (y) 1)")


class Uses(ShowCase):
    """Point 28: uses that are put back."""

    def test_a_use_in_the_source(self):
        self.shows_after(ADD, "(add 2)", "3")
        self.shows_after(ADD, "(add (* 2 3))", "(add 6)", "7")
        self.shows_after(ADD, "(fn (a) (add a))")
        self.shows_after(ADD, "(let a (add 2) (add a))", "(let a 3 (add a))", "(add 3)", "4")
        self.shows_after("(macro one ((m) 1))", "(one)")
        self.shows_after("(macro plus ((m) +))", "((plus) 1 2)", "3")

    def test_the_result_of_a_use_that_has_made_a_step_itself(self):
        self.shows_after(TWICE, "(twice (+ 1 2))", "(twice 3)", None, "6")
        self.shows_after("(macro m ((m e) (let t 1 e)))", "(m (+ 2 3))", "(+ 2 3)", "5")

    def test_uses_in_items_of_uses(self):
        self.shows_after(ADD, "(add (add (add 1)))", "(add (add 2))", "(add 3)", "4")
        self.shows_after(ADD + TWICE, "(twice (add (twice 2)))", None, "(twice (add 4))", "(twice 5)", None, "10")
        self.shows_after(DELAY + ADD, "(add ((delay (add 1))))", "(add (add 1))", "(add 2)", "3")

    def test_uses_whose_results_are_their_items(self):
        self.shows_after("(macro m ((m e) e))", "(m (m (+ 1 (m 2))))", "3")
        self.shows_after("(macro m ((m e) e)) (macro k ((k e) (m e)))", "(k (m (k (+ 1 2))))", "3")
        self.shows_after("(macro m ((m e) e))", "(let x (m 5) (m (fn (y) (m x))))", "(m (fn (y) (m 5)))")

    def test_a_macro_that_uses_another_one(self):
        self.shows_after(ADD + OUTER, "(outer (+ 2 3))", "(outer 5)", None, "11")
        self.shows_after(ADD + OUTER, "(add (outer (add 2)))", "(add (outer 3))", None, "(add 7)", "8")
        self.shows_after("(macro add ((m e) (+ e 1))) (macro both ((m e f) (pair (add e) (add f))))",
                         "(both (* 1 2) 4)", "(both 2 4)", None, None, "(pair 3 5)")

    def test_a_macro_that_uses_itself(self):
        self.shows_after("(macro m ((m) 0) ((m a b ...) (+ a (m b ...))))", "(m (+ 1 2) 3)", "(m 3 3)", None, "6")
        self.shows_after("(macro or ((or) 0) ((or a) a) ((or a b ...) (let t a (if t t (or b ...)))))",
                         "(or 0 (or 0 0) (+ 1 1))", None, None, None, None, None, None, "2")

    def test_a_use_that_a_macro_introduced_is_not_shown_alone(self):
        self.shows_after(ADD + "(macro m ((m e) (let t 1 (add e))))", "(m (+ 2 3))", None, None, "6")
        self.shows_after(ADD + "(macro m ((m e) (if 1 e (add 1))))", "(m (+ 2 3))", "(+ 2 3)", "5")

    def test_lists_and_integers_of_a_pattern(self):
        self.shows_after("(macro m ((m (a 0 (b)) -5) (- a b)))", "(m ((+ 1 2) 0 (4)) -5)", "(m (3 0 (4)) -5)", "-1")
        # They were introduced by whatever introduced them in the use that was expanded.
        self.shows_after("(macro k ((k (a b) 7) (+ a b))) (macro m ((m e f) (k e f)))", "(m (1 (* 2 3)) 7)", "(m (1 6) 7)", "7")
        self.shows_after("(macro k ((k (a b) 7) (+ a b))) (macro m ((m a b) (k (a b) 7)))", "(m 1 (* 2 3))", "(m 1 6)", "7")
        self.shows_after("(macro k ((k (a b) ...) (0 (a b) ...))) (macro m ((m e a) (k e (a 5))))", "(m (+ (- 2 1)) +)",
                         "(m (+ 1) +)")
        self.shows_after("(macro k ((k (a b) ...) (pair (pair a b) ...))) (macro m ((m e a) (k e (a 5))))", "(m (1 (- 2 1)) +)",
                         "(m (1 1) +)", None, None, None)

    def test_a_variable_that_stands_for_the_name_of_a_form_or_of_a_macro(self):
        self.shows_after("(macro m ((m h a ...) (h a ...)))", "(m if (m + 1 2) 3 4)", "(m if 3 3 4)", "3")
        self.shows_after(ADD + "(macro m ((m h e) (h e)))", "(m add (+ 1 2))", "(m add 3)", "4")
        self.shows_after("(macro m ((m h e) (h e 1)))", "(m - (+ 1 2))", "(m - 3)", "2")

    def test_uses_of_a_macro_that_a_later_one_hides(self):
        self.shows_after("(macro m ((m e) (+ e 1))) (macro k ((k e) (m e))) (macro m ((m e) (* e 2)))", "(k (m (+ 1 2)))",
                         "(k (m 3))", "(k 6)", "7")

    def test_of_several_rules_the_one_that_was_used(self):
        self.shows_after("(macro m ((m 0 e) (+ e 1)) ((m 1 e) (+ e 1 e)) ((m e f) (- e f)))", "(m 0 (m 2 1))", "(m 0 1)", "2")


class Bound(ShowCase):
    """Point 28: templates with forms, and names that are bound in them."""

    def test_names_that_are_introduced(self):
        self.shows_after("(macro m ((m e) (fn (t u) (t u e))))", "((m (+ 1 2)) (fn (t u) t) 4)", None, None, "4")
        self.shows_after("(macro m ((m e) (fn (t) (+ t e))))", "(let t 5 ((m t) (+ t 1)))", "((m 5) (+ 5 1))", "((m 5) 6)", None, "11")
        self.shows_after("(macro m ((m e) (let t e (fn () t))))", "(m (+ 1 2))", "(m 3)", None)
        self.shows_after("(macro m ((m e) (rec t (u) (if u t e))))", "((m 5) (+ 0 0))", "((m 5) 0)", None, "5")

    def test_names_that_come_from_the_use(self):
        self.shows_after("(macro m ((m n e) (fn (n) (+ n e))))", "(let t 5 ((m t t) 1))", "((m t t) 1)", None, "2")
        self.shows_after("(macro m ((m n v e) (let n v e)))", "(m t (+ 1 2) (pair t t))", "(m t 3 (pair t t))", "(pair 3 3)", "(pair 3 3)")
        self.shows_after("(macro m ((m n e) (rec n (t) (n e))))", "(let t 5 (m f t))", "(m f 5)")
        self.shows_after("(macro m ((m n e) (rec f (n) e)))", "(let f 5 (m a (f a)))", "(m a (5 a))")
        self.shows_after("(macro m ((m n e) (fn (n) e)))", "(fn (t) (m t t))")

    def test_lists_of_parameters(self):
        self.shows_after(DELAY, "(pair 0 (delay (+ 1 2)))", "(pair 0 (delay (+ 1 2)))")
        self.shows_after("(macro lambda ((m ps e) (fn ps e)))", "(pair (lambda () 5) (lambda (a b) (a b)))",
                         "(pair (lambda () 5) (lambda (a b) (a b)))")
        self.shows_after("(macro m ((m ps e) (rec f ps e)))", "((m (a b) (- a b)) 1 (m () 2))", "(- 1 (m () 2))")
        self.shows_after("(macro m ((m (p ...) e) (fn (p ...) e))) (macro k ((m ps e) (rec f ps e)))",
                         "(m (a b) (k (c) (a c)))")

    def test_a_form_whose_name_comes_from_the_use(self):
        self.shows_after("(macro m ((m h) (h (t) t)))", "(m fn)")
        self.shows_after("(macro m ((m f v) (f t v (t t))))", "(m let (fn (x) 5))", None, "5")

    def test_if_of_a_template(self):
        self.shows_after("(macro m ((m a b) (if a b 0)))", "(m (- 1 1) (+ 1 2))", "(m 0 (+ 1 2))", None)
        self.shows_after("(macro m ((m a b) (if a b 0)))", "(m (- 2 1) (+ 1 2))", "(m 1 (+ 1 2))", "(+ 1 2)", "3")

    def test_with_in_a_template(self):
        self.shows("(macro m ((m e) (with k (((k) 1)) e))) (m (+ 1 2))", None, "3")
        self.shows("(macro m ((m e) (with k (((k f) f)) (k e)))) (pair (m (+ 1 2)) (+ 3 4))", None, "(pair 3 (+ 3 4))",
                   "(pair 3 7)", "(pair 3 7)")


if __name__ == "__main__":
    unittest.main()
