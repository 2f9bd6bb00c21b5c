import unittest

from sugartrue.errors import FormError, ScopeError
from support import EXPANDERS, Case

# Each form as an expression, and its shape if its first variable has the number in braces.
FORMS = {
    "fn": ("(fn () 1)", "(fn [] 1)"),
    "let": ("(let z 1 z)", "(let {0} 1 ${0})"),
    "rec": ("(rec z () z)", "(rec {0} [] ${0})"),
    "if": ("(if 1 2 3)", "(if 1 2 3)"),
    "with": ("(with z (((z) 4)) (z))", "4"),
}
PRIMITIVES = ("+", "-", "*", "<", "=", "pair", "head", "tail", "none")
MEANINGS = {**FORMS, **{text: (text, text) for text in PRIMITIVES}}
NOT_BINDABLE = ("1", "-5", "()", "(a)", "_", "...")


class Programs(Case):
    """Point 6 and the part of 18 about it."""

    def test_definitions_and_an_expression(self):
        self.gives("5", "5")
        self.gives("(macro m ((m) 1)) 5", "5")
        self.gives("(macro m ((m) 1)) (m)", "1")
        self.gives("(macro m ((m) 1)) (macro k ((k) 2)) (+ (m) (k))", "(+ 1 2)")
        self.gives("(macro m ((m) 1) ((m 0) 2) ((m x) x)) (+ (m) (m 0) (m 3))", "(+ 1 2 3)")

    def test_no_tree(self):
        self.fails(FormError, "")
        for expander in EXPANDERS:
            with self.assertRaises(FormError):
                expander([])

    def test_trees_before_the_last_one_are_definitions(self):
        for tree in ("5", "x", "macro", "()", "(1)", "(+ 1 2)", "((macro) m ((m) 1))", "(m macro ((m) 1))",
                     "(with m (((m) 1)) 2)", "(macro)", "(macro m)", "(let macro 1 2)"):
            self.fails(FormError, f"{tree} 5")
            self.fails(FormError, f"(macro k ((k) 1)) {tree} 5")
            self.fails(FormError, f"{tree} (macro k ((k) 1)) 5")

    def test_the_last_tree_is_the_expression(self):
        self.fails(ScopeError, "(macro m ((m) 1))")
        self.fails(ScopeError, "(macro m ((m) 1)) (macro k ((k) 1))")
        self.gives("(macro macro ((m x ...) 3)) (macro k ((k) 1))", "3")

    def test_the_name_of_a_definition(self):
        for tree in NOT_BINDABLE:
            self.fails(FormError, f"(macro {tree} ((m) 1)) 5")
        self.gives("(macro m ((m) 1)) 5", "5")

    def test_the_place_of_rules_takes_rules_only(self):
        for tree in ("1", "m", "()", "((m))", "((m) 1 2)", "(m 1)", "(1 1)", "(() 1)", "((1) 1)", "(((m)) 1)",
                     "((() m) 1)", "((...) 1)", "((... a) 1)"):
            self.fails(FormError, f"(macro m {tree}) 5")
            self.fails(FormError, f"(macro m ((m) 1) {tree}) 5")
            self.fails(FormError, f"(macro m {tree} ((m) 1)) 5")
            self.fails(FormError, f"(with m ({tree}) 5)")
            self.fails(FormError, f"(with m (((m) 1) {tree}) 5)")

    def test_the_first_name_of_a_pattern_is_ignored(self):
        for first in ("m", "other", "_", "x", "macro", "+", "let"):
            self.gives(f"(macro m (({first} x) (pair x 1))) (m 4)", "(pair 4 1)")
            self.gives(f"(with m ((({first} x) (pair x 1))) (m 4))", "(pair 4 1)")
        self.gives("(macro m ((x x) x)) (m 4)", "4")
        self.gives("(let z 1 (with m (((z) z)) (m)))", "(let 0 1 $0)")

    def test_where_a_macro_can_be_used(self):
        self.gives("(macro m ((m) 0) ((m a b ...) (pair a (m b ...)))) (m 1 2)", "(pair 1 (pair 2 0))")
        self.gives("(macro m ((m) 1)) (macro k ((k) (m))) (k)", "1")
        self.fails(ScopeError, "(macro k ((k) (m))) (macro m ((m) 1)) (k)")


class Expressions(Case):
    """Point 7 and the part of 18 about it."""

    def test_correct_forms(self):
        self.gives("-7", "-7")
        self.gives("+", "+")
        self.gives("(fn () 1)", "(fn [] 1)")
        self.gives("(fn (a) a)", "(fn [0] $0)")
        self.gives("(fn (a b c) (b a c))", "(fn [0 1 2] ($1 $0 $2))")
        self.gives("(let a 1 a)", "(let 0 1 $0)")
        self.gives("(rec f () f)", "(rec 0 [] $0)")
        self.gives("(rec f (a b) (f b a))", "(rec 0 [1 2] ($0 $2 $1))")
        self.gives("(if 1 2 3)", "(if 1 2 3)")
        self.gives("(with m (((m) 1)) (m))", "1")
        self.gives("(with m (((m) 1) ((m x) x)) (+ (m) (m 2)))", "(+ 1 2)")

    def test_applications(self):
        self.gives("(+)", "(+)")
        self.gives("(+ 1 2 3)", "(+ 1 2 3)")
        self.gives("(1)", "(1)")
        self.gives("(1 2)", "(1 2)")
        self.gives("((fn (a) a) 5)", "((fn [0] $0) 5)")
        self.gives("(((+)))", "(((+)))")
        self.gives("(let f head (f f))", "(let 0 head ($0 $0))")
        self.gives("((if 1 + -) 2 3)", "((if 1 + -) 2 3)")
        self.gives("(macro m ((m) head)) ((m) 2)", "(head 2)")

    def test_too_few_and_too_many_parts(self):
        for text in ("(fn)", "(fn ())", "(fn () 1 2)", "(fn (a) a a)", "(let)", "(let a)", "(let a 1)",
                     "(let a 1 2 3)", "(rec)", "(rec f)", "(rec f ())", "(rec f () 1 2)", "(if)", "(if 1)",
                     "(if 1 2)", "(if 1 2 3 4)", "(with)", "(with m)", "(with m (((m) 1)))", "(with m () 1)",
                     "(with m (((m) 1)) 1 2)"):
            self.fails(FormError, text)
            self.fails(FormError, f"(+ 1 {text})")

    def test_a_list_of_names_or_rules_is_a_list(self):
        for text in ("(fn 1 2)", "(fn a 2)", "(rec f a 1)", "(rec f 1 1)", "(rec (f) () 1)", "(with m 1 2)",
                     "(with m m 2)", "(with m ((m) 1) 2)", "(with ((m) 1) 2)"):
            self.fails(FormError, text)

    def test_what_cannot_be_bound(self):
        for tree in NOT_BINDABLE:
            self.fails(FormError, f"(fn ({tree}) 1)")
            self.fails(FormError, f"(fn (a {tree} b) 1)")
            self.fails(FormError, f"(let {tree} 1 2)")
            self.fails(FormError, f"(rec {tree} () 1)")
            self.fails(FormError, f"(rec f ({tree}) 1)")
            self.fails(FormError, f"(rec f (a {tree}) 1)")
            self.fails(FormError, f"(with {tree} (((m) 1)) 2)")

    def test_the_same_parameter_twice(self):
        for text in ("(fn (a a) 1)", "(fn (a b a) 1)", "(rec f (a a) 1)", "(rec f (f) 1)", "(rec f (a f) 1)",
                     "(rec f (a b c a) 1)"):
            self.fails(FormError, text)
        self.gives("(fn (a) (fn (a) a))", "(fn [0] (fn [1] $1))")
        self.gives("(rec f (a) (rec a (f) (a f)))", "(rec 0 [1] (rec 2 [3] ($2 $3)))")

    def test_an_empty_list(self):
        for text in ("()", "(+ ())", "(())", "(fn () ())", "(let a () 1)", "(macro m ((m) ())) (m)"):
            self.fails(FormError, text)

    def test_a_name_of_a_form_or_of_a_macro(self):
        for text in FORMS:
            self.fails(FormError, text)
            self.fails(FormError, f"(+ {text})")
            self.fails(FormError, f"(let a {text} 1)")
            self.fails(FormError, f"(macro m ((m) {text})) (m)")
        self.fails(FormError, "(macro m ((m) 1)) m")
        self.fails(FormError, "(macro m ((m) 1)) (+ m)")
        self.fails(FormError, "(with m (((m) 1)) m)")
        self.fails(FormError, "(with m (((m) m)) (m))")

    def test_names_that_are_no_expressions(self):
        for text in ("_", "...", "(_)", "(...)", "(+ _)", "(+ ...)", "(_ 1)"):
            self.fails(ScopeError, text)

    def test_where_names_are_bound(self):
        self.fails(ScopeError, "(let a a 1)")
        self.gives("(let a 1 (let a a a))", "(let 0 1 (let 1 $0 $1))")
        self.fails(ScopeError, "(+ (let a 1 2) a)")
        self.fails(ScopeError, "(+ (fn (a) 1) a)")
        self.fails(ScopeError, "(+ (rec f (a) 1) f)")
        self.fails(ScopeError, "(+ (rec f (a) 1) a)")
        self.fails(ScopeError, "(+ (with m (((m) 1)) 1) (m))")
        self.fails(ScopeError, "(+ (m) (with m (((m) 1)) 1))")
        self.gives("(with m (((m) 0) ((m a b ...) (pair a (m b ...)))) (m 1 2))", "(pair 1 (pair 2 0))")

    def test_inner_bindings_hide_outer_ones(self):
        self.gives("(let a 1 (pair (let a 2 a) a))", "(let 0 1 (pair (let 1 2 $1) $0))")
        self.gives("(fn (a b) (fn (b) (pair a b)))", "(fn [0 1] (fn [2] (pair $0 $2)))")
        self.gives("(macro m ((m) 1)) (macro m ((m) 2)) (m)", "2")
        self.gives("(macro m ((m) 1)) (macro m ((m 0) (m)) ((m) 2)) (m 0)", "2")
        self.gives("(macro m ((m) 1)) (pair (with m (((m) 2)) (m)) (m))", "(pair 2 1)")
        self.gives("(macro m ((m) 1)) (let m 3 (m m))", "(let 0 3 ($0 $0))")


class Bound(Case):
    """Point 8."""

    def test_meanings_without_a_binding(self):
        for text, (use, expected) in MEANINGS.items():
            self.gives(use, expected.format(0))

    def test_bound_by_a_let(self):
        for text, (use, expected) in MEANINGS.items():
            self.gives(f"(0 (let {text} 7 (1 {text} ({text} {text}))) {use})",
                       f"(0 (let 0 7 (1 $0 ($0 $0))) {expected.format(1)})")

    def test_bound_by_a_parameter(self):
        for text, (use, expected) in MEANINGS.items():
            self.gives(f"(0 (fn ({text}) (1 {text} ({text} {text}))) {use})",
                       f"(0 (fn [0] (1 $0 ($0 $0))) {expected.format(1)})")
            self.gives(f"(0 (rec q ({text}) (1 {text} ({text} {text}))) {use})",
                       f"(0 (rec 0 [1] (1 $1 ($1 $1))) {expected.format(2)})")

    def test_bound_by_a_rec(self):
        for text, (use, expected) in MEANINGS.items():
            self.gives(f"(0 (rec {text} () (1 {text} ({text} {text}))) {use})",
                       f"(0 (rec 0 [] (1 $0 ($0 $0))) {expected.format(1)})")

    def test_bound_by_a_with(self):
        for text, (use, expected) in MEANINGS.items():
            self.gives(f"(0 (with {text} (((m a) a)) ({text} 8)) {use})", f"(0 8 {expected.format(0)})")
            self.fails(FormError, f"(with {text} (((m a) a)) {text})")

    def test_bound_by_a_definition(self):
        for text, (use, expected) in MEANINGS.items():
            self.gives(f"(macro old ((m) {use})) (macro {text} ((m a) a)) (0 ({text} 8) (old))",
                       f"(0 8 {expected.format(0)})")
            self.fails(FormError, f"(macro {text} ((m a) a)) {text}")

    def test_other_names_have_no_meaning(self):
        for text in ("x", "macro", "cons", "lambda", "fn1", "pair2", "q"):
            self.fails(ScopeError, text)
            self.fails(ScopeError, f"({text} 1)")

    def test_the_name_macro_in_an_expression(self):
        self.gives("(let macro 5 macro)", "(let 0 5 $0)")
        self.gives("(fn (macro) (macro macro))", "(fn [0] ($0 $0))")
        self.gives("(rec macro () (macro 1 2))", "(rec 0 [] ($0 1 2))")
        self.gives("(with macro (((m x) x)) (macro 6))", "6")
        self.gives("(macro m ((m macro) (pair macro macro))) (m 5)", "(pair 5 5)")
        self.gives("(macro macro ((m) 5)) (macro)", "5")
        self.fails(ScopeError, "(+ 1 (macro m ((m) 1)))")
        self.fails(ScopeError, "(macro m ((m) (macro))) (m)")

    def test_the_name_macro_begins_a_definition_even_if_it_is_bound(self):
        self.gives("(macro macro ((m) 5)) (macro k ((k) 6)) (pair (k) (macro))", "(pair 6 5)")


if __name__ == "__main__":
    unittest.main()
