import unittest

from sugartrue.errors import FormError, MatchError, ScopeError
from support import Case


class AroundItems(Case):
    """Points 14 and 15: a macro that binds a name around an item of its use."""

    def test_the_item_does_not_see_what_the_macro_binds(self):
        self.gives("(macro twice ((m e) (let t e (+ t t)))) (let t 5 (twice t))", "(let 0 5 (let 1 $0 (+ $1 $1)))")
        self.gives("(macro m ((m e) (let t 1 (+ t e)))) (let t 5 (m t))", "(let 0 5 (let 1 1 (+ $1 $0)))")
        self.gives("(macro m ((m e) (fn (t) (t e)))) (let t 5 (m t))", "(let 0 5 (fn [1] ($1 $0)))")
        self.gives("(macro m ((m e) (rec t (u) (t e)))) (let t 5 (m t))", "(let 0 5 (rec 1 [2] ($1 $0)))")
        self.gives("(macro m ((m e) (with t (((t) 1)) (+ (t) e)))) (let t 5 (m t))", "(let 0 5 (+ 1 $0))")
        self.gives("(macro m ((m e) (let + 1 (0 + e)))) (m +)", "(let 0 1 (0 $0 +))")
        self.gives("(macro m ((m e) (let if 1 e))) (m (if 1 2 3))", "(let 0 1 (if 1 2 3))")

    def test_only_the_name_that_is_bound_nowhere_else_fails(self):
        self.fails(ScopeError, "(macro m ((m e) (let t 1 e))) (m t)")
        self.fails(ScopeError, "(macro m ((m e) (fn (t) e))) (m t)")
        self.fails(ScopeError, "(macro m ((m e) (with t (((t) 1)) e))) (m (t))")

    def test_a_name_of_the_use_can_be_bound_by_the_macro(self):
        self.gives("(macro m ((m n e) (let n 1 e))) (m t (+ t t))", "(let 0 1 (+ $0 $0))")
        self.gives("(macro m ((m n e) (fn (n) e))) (let t 5 (m t (+ t)))", "(let 0 5 (fn [1] (+ $1)))")
        self.gives("(macro m ((m n e) (with n (((n) 7)) e))) (m t (t))", "7")
        self.gives("(macro m ((m n e) (rec n () (n e)))) (m t t)", "(rec 0 [] ($0 $0))")

    def test_a_name_of_the_use_does_not_bind_what_the_macro_introduces(self):
        self.gives("(let t 5 (with m (((m n) (let n 1 t))) (m t)))", "(let 0 5 (let 1 1 $0))")
        self.gives("(let t 5 (with m (((m n e) (fn (n) (0 t e)))) (m t t)))", "(let 0 5 (fn [1] (0 $0 $1)))")
        self.gives("(macro m ((m n) (rec n () (if 1 n 3)))) (m if)", "(rec 0 [] (if 1 $0 3))")
        self.gives("(macro k ((k) 1)) (macro m ((m n) (with n (((n) 2)) (0 (k) (n))))) (m k)", "(0 1 2)")
        self.gives("(macro m ((m n) (fn (n) (+ n)))) (m +)", "(fn [0] (+ $0))")
        self.fails(ScopeError, "(macro m ((m n) (let n 1 t))) (m t)")

    def test_nested_uses(self):
        or2 = "(macro or ((m a b) (let t a (if t t b))))"
        self.gives(f"{or2} (let t 7 (or 0 (or t 1)))",
                   "(let 0 7 (let 1 0 (if $1 $1 (let 2 $0 (if $2 $2 1)))))")
        self.gives("(macro or ((m a) a) ((m a b ...) (let t a (if t t (or b ...))))) (let t 7 (or 0 t t))",
                   "(let 0 7 (let 1 0 (if $1 $1 (let 2 $0 (if $2 $2 $0)))))")
        self.gives("(macro swap ((m a b e) (let t a (let a b (let b t e))))) (fn (t u) (swap t u (- t u)))",
                   "(fn [0 1] (let 2 $0 (let 3 $1 (let 4 $2 (- $3 $4)))))")

    def test_an_item_that_is_used_twice(self):
        self.gives("(macro m ((m e) (pair e (let t 1 e)))) (let t 5 (m (let u t u)))",
                   "(let 0 5 (pair (let 1 $0 $1) (let 2 1 (let 3 $0 $3))))")


class InsideScopes(Case):
    """Points 14 and 15: a use inside a scope that binds a name that the template introduces."""

    def test_the_template_means_what_it_meant_at_its_definition(self):
        self.gives("(macro m ((m a) (if a 1 2))) (let if 5 (m if))", "(let 0 5 (if $0 1 2))")
        self.gives("(macro m ((m a) (+ a 1))) (fn (+) (m +))", "(fn [0] (+ $0 1))")
        self.gives("(macro m ((m a) (+ a 1))) (with + (((p a) a)) (m (+ 3)))", "(+ 3 1)")
        self.gives("(macro m ((m) (let a 1 a))) (rec let () (m))", "(rec 0 [] (let 1 1 $1))")
        self.gives("(let x 1 (with m (((m) x)) (let x 2 (pair (m) x))))", "(let 0 1 (let 1 2 (pair $0 $1)))")
        self.gives("(fn (x) (with m (((m e) (pair x e))) (fn (x) (m x))))", "(fn [0] (fn [1] (pair $0 $1)))")
        self.gives("(macro k ((k) 1)) (macro m ((m) (k))) (with k (((k) 2)) (pair (k) (m)))", "(pair 2 1)")
        self.gives("(macro k ((k) 1)) (macro m ((m) (k))) (macro k ((k) 2)) (pair (k) (m))", "(pair 2 1)")

    def test_a_name_without_a_binding_at_the_definition_has_none(self):
        self.fails(ScopeError, "(macro m ((m) t)) (let t 5 (m))")
        self.fails(ScopeError, "(macro m ((m) t)) (fn (t) (m))")
        self.fails(ScopeError, "(macro m ((m) (t))) (with t (((t) 1)) (m))")
        self.fails(ScopeError, "(macro m ((m) (t))) (macro t ((t) 1)) (m)")
        self.fails(ScopeError, "(with m (((m) t)) (let t 1 (m)))")
        self.gives("(let t 1 (with m (((m) t)) (m)))", "(let 0 1 $0)")

    def test_two_uses_introduce_different_names(self):
        self.fails(ScopeError, "(macro bind ((m e) (let t 1 e))) (macro get ((m) t)) (bind (get))")
        self.gives("(macro m ((m) (fn (t) t)) ((m e) (fn (t) (pair t e)))) (m (m))", "(fn [0] (pair $0 (fn [1] $1)))")


class Makers(Case):
    """Point 16, and macros that make macros."""

    def test_a_macro_that_makes_a_macro(self):
        self.gives("(macro mk ((mk k e) (with k (((k x) (let t x (+ t t)))) e))) (let t 3 (mk dbl (dbl (dbl t))))",
                   "(let 0 3 (let 2 (let 1 $0 (+ $1 $1)) (+ $2 $2)))")
        self.gives("(macro mk ((mk k v e) (let x 1 (with k (((k) (pair x v))) e)))) (let x 7 (mk g x (let x 9 (pair x (g)))))",
                   "(let 0 7 (let 1 1 (let 2 9 (pair $2 (pair $1 $0)))))")

    def test_variables_that_differ_in_their_scopes_only(self):
        self.gives("(macro mk ((mk k v e) (with k (((k v x) (pair v x))) e))) (mk q x (q 1 2))", "(pair 1 2)")
        self.gives("(macro mk ((mk k v e) (with k (((k x v) (pair v x))) e))) (mk q x (q 1 2))", "(pair 2 1)")
        self.gives("(macro mk ((mk k v d e) (with k (((k (v d) x d) (0 (v x) d))) e))) (mk q x ... (q (1 2) 3 4))",
                   "(0 (1 3) (2 4))")
        self.fails(FormError, "(macro mk ((mk k v w) (with k (((k v w) 1)) 2))) (mk q x x)")
        self.fails(FormError, "(macro mk ((mk k) (with k (((k x x) 1)) 2))) (mk q)")

    def test_a_name_in_a_template_that_differs_from_the_variable(self):
        self.gives("(macro mk ((mk k v e) (with k (((k x) (pair v x))) e))) (let x 9 (mk q x (q 1)))",
                   "(let 0 9 (pair $0 1))")
        self.fails(ScopeError, "(macro mk ((mk k v e) (with k (((k v) x)) e))) (mk q x (q 1))")
        self.gives("(macro mk ((mk k v e) (with k (((k v) v)) e))) (mk q x (q 1))", "1")

    def test_a_pattern_and_a_template_that_come_from_the_use(self):
        self.gives("(macro def ((m k p t e) (with k ((p t)) e))) (let t 1 (def q (q e) (let t e (pair t e)) (q t)))",
                   "(let 0 1 (let 1 $0 (pair $1 $0)))")
        # Dots that a pattern variable stands for repeat as others do.
        self.gives("(macro mk ((m k d) (with k (((k x d) (0 (x) d))) (k 1 2)))) (mk q ...)", "(0 (1) (2))")
        self.gives("(macro mk ((m (v) 0) 1) ((m (v) t) (with q (((q v) t)) (q 5)))) (mk (x) x)", "5")
        self.gives("(macro mk ((m k p t) (with k (((k p) t)) (k (1 2))))) (mk q (x ...) (0 x ...))", "(0 1 2)")

    def test_parameters_that_differ_in_their_scopes_only(self):
        self.gives("(macro m ((m n e) (fn (n x) (0 n x e)))) (m x x)", "(fn [0 1] (0 $0 $1 $0))")
        self.gives("(macro m ((m n e) (fn (x n) (0 n x e)))) (m x x)", "(fn [0 1] (0 $1 $0 $1))")
        self.gives("(macro m ((m n e) (rec x (n) (0 x n e)))) (m x x)", "(rec 0 [1] (0 $0 $1 $1))")
        self.gives("(macro m ((m n e) (rec n (x) (0 x n e)))) (m x x)", "(rec 0 [1] (0 $1 $0 $0))")
        self.fails(FormError, "(macro m ((m a b) (fn (a b) 1))) (m x x)")
        self.fails(FormError, "(macro m ((m a b) (rec a (b) 1))) (m x x)")
        self.fails(FormError, "(macro m ((m) (fn (x x) 1))) (m)")
        self.gives("(macro k ((k a b) (fn (a b) (a b)))) (macro m ((m a) (k x a))) (m x)", "(fn [0 1] ($0 $1))")

    def test_macros_that_differ_in_their_scopes_only(self):
        self.gives("(macro m ((m k e) (with k (((k) 1)) (with q (((q) 2)) (0 (k) (q) e))))) (m q (q))", "(0 1 2 1)")
        self.gives("(macro m ((m k) (with q (((q) 2)) (with k (((k) 1)) (0 (k) (q)))))) (m q)", "(0 1 2)")

    def test_macros_that_make_macros_that_make_macros(self):
        self.gives("(macro a ((a k) (with b (((b l x) (with l (((l k) (0 k x))) (l 5)))) (b z k)))) (let x 4 (a x))",
                   "(let 0 4 (0 5 $0))")
        self.gives("(macro two ((m a b e) (with a (((a x) (with b (((b y) (0 x y))) e))) (a 5)))) (two p q (q 6))",
                   "(0 5 6)")


class Lookup(Case):
    """Point 17."""

    def test_names_that_are_bound_nowhere(self):
        for text in ("x", "(x)", "(+ x)", "(fn () x)", "(let a x a)", "(let a 1 x)", "(if 1 2 x)", "(rec f (a) x)",
                     "(with m (((m) 1)) x)", "(with m (((m) x)) (m))", "(macro m ((m a) a)) (m x)"):
            self.fails(ScopeError, text)
        self.gives("(with m (((m) x)) 1)", "1")

    def test_names_that_are_bound_in_another_part(self):
        self.fails(ScopeError, "(pair (let x 1 x) x)")
        self.fails(ScopeError, "(pair x (let x 1 x))")
        self.fails(ScopeError, "(pair (fn (x) x) (fn (y) x))")
        self.fails(ScopeError, "(let x (let y 1 y) y)")
        self.fails(ScopeError, "(macro m ((m n) (pair (let n 1 n) n))) (m x)")
        self.fails(ScopeError, "(macro m ((m) (pair (let n 1 n) n))) (m)")

    def test_the_binding_that_contains_all_others(self):
        self.gives("(let x 1 (let x 2 (let x 3 x)))", "(let 0 1 (let 1 2 (let 2 3 $2)))")
        self.gives("(fn (x) (let x x (rec x () x)))", "(fn [0] (let 1 $0 (rec 2 [] $2)))")
        self.gives("(let x 1 (with x (((x) 2)) (let y (x) (let x 3 x))))", "(let 0 1 (let 1 2 (let 2 3 $2)))")

    def test_names_in_the_items_of_a_use_are_no_uses_until_they_are_expanded(self):
        self.gives("(macro m ((m _) 1)) (m nowhere)", "1")
        self.fails(MatchError, "(macro m ((m 1) 1)) (m nowhere)")


if __name__ == "__main__":
    unittest.main()
