"""What both expanders give is also compared by nearly all other tests of expanding."""

import unittest

from build import NOWHERE, app, cond, fn, let, num, parts_of, prim, rec, ref
from sugartrue.apart import expand_apart
from sugartrue.errors import FormError, LimitError, MatchError, ScopeError
from sugartrue.expanding import expand
from sugartrue.reading import read
from sugartrue.terms import alike
from support import Case


def bound_in(term):
    """The numbers of the variables that a term binds, in the order in which they are bound."""
    if term[0] == "fn":
        return list(term[1]) + bound_in(term[2])
    if term[0] == "rec":
        return [term[1], *term[2]] + bound_in(term[3])
    if term[0] == "let":
        return bound_in(term[2]) + [term[1]] + bound_in(term[3])
    found = []
    for part in [term[1], *term[2]] if term[0] == "app" else term[1:-1]:
        if isinstance(part, tuple):
            found += bound_in(part)
    return found


class Apart(Case):
    """Point 22."""

    def is_term(self, text, term):
        """The second expander gives this term, and the first one a term that is alike."""
        with self.subTest(text=text):
            program = read(text)
            apart = expand_apart(program)
            self.assertEqual(apart, term)
            self.assertIs(alike(expand(program), apart), True)
            numbers = bound_in(apart)
            self.assertEqual(numbers, list(range(len(numbers))))
            self.assertEqual({part[-1] for part in parts_of(apart)}, {NOWHERE})

    def test_each_kind_of_term(self):
        self.is_term("-7", num(-7))
        self.is_term("head", prim("head"))
        self.is_term("(fn () 1)", fn([], num(1)))
        self.is_term("(fn (a b) (b a))", fn([0, 1], app(ref(1), ref(0))))
        self.is_term("(rec f (a b) (f b a))", rec(0, [1, 2], app(ref(0), ref(2), ref(1))))
        self.is_term("(let a (let b 1 b) (let c a c))", let(1, let(0, num(1), ref(0)), let(2, ref(1), ref(2))))
        self.is_term("(if 1 + (fn (a) a))", cond(num(1), prim("+"), fn([0], ref(0))))
        self.is_term("(+)", app("+"))
        self.is_term("(with m (((m e) (e 1))) (m -))", app("-", num(1)))
        self.is_term("(macro m ((m) 1)) (macro k ((k e ...) (+ e ...))) (k (m) 2)", app("+", num(1), num(2)))

    def test_a_macro_that_binds_a_name_around_an_item(self):
        self.is_term("(macro twice ((m e) (let t e (+ t t)))) (let t 5 (twice t))",
                     let(0, num(5), let(1, ref(0), app("+", ref(1), ref(1)))))
        self.is_term("(macro m ((m e) (fn (t) (t e)))) (let t 5 (m t))", let(0, num(5), fn([1], app(ref(1), ref(0)))))
        self.is_term("(macro m ((m e) (rec t (u) (t e)))) (fn (t u) (m (t u)))",
                     fn([0, 1], rec(2, [3], app(ref(2), app(ref(0), ref(1))))))
        self.is_term("(macro m ((m e) (with t (((t) 1)) (pair (t) e)))) (let t 5 (m t))",
                     let(0, num(5), app("pair", num(1), ref(0))))
        self.is_term("(macro or ((m a b) (let t a (if t t b)))) (let t 7 (or 0 (or t 1)))", let(0, num(7), let(
            1, num(0), cond(ref(1), ref(1), let(2, ref(0), cond(ref(2), ref(2), num(1)))))))
        # The items of a use are bound where a macro binds a name that comes from them.
        self.is_term("(macro m ((m n e) (let n 1 (pair n e)))) (let t 5 (m t t))",
                     let(0, num(5), let(1, num(1), app("pair", ref(1), ref(1)))))

    def test_a_template_with_a_name_that_means_something_else_at_the_use(self):
        self.is_term("(let x 1 (with m (((m) x)) (let x 2 (pair (m) x))))",
                     let(0, num(1), let(1, num(2), app("pair", ref(0), ref(1)))))
        self.is_term("(fn (x) (with m (((m e) (pair x e))) (fn (x) (m x))))", fn([0], fn([1], app("pair", ref(0), ref(1)))))
        self.is_term("(macro k ((k) 1)) (macro m ((m) (k))) (with k (((k) 2)) (pair (k) (m)))", app("pair", num(2), num(1)))
        self.is_term("(macro k ((k) 1)) (macro m ((m) (k))) (macro k ((k) 2)) (pair (k) (m))", app("pair", num(2), num(1)))
        self.is_term("(let x 1 (with m (((m) x)) (with k (((k) (let x 2 (m)))) (let x 3 (k)))))",
                     let(0, num(1), let(1, num(3), let(2, num(2), ref(0)))))
        self.is_term("(with m (((m) 0) ((m a b ...) (pair a (m b ...)))) (with k (((k) (m 1))) (let m 5 (pair m (k)))))",
                     let(0, num(5), app("pair", ref(0), app("pair", num(1), num(0)))))
        for text in ("(macro m ((m) t)) (let t 5 (m))", "(with m (((m) (t))) (with t (((t) 1)) (m)))",
                     "(macro bind ((m e) (let t 1 e))) (macro get ((m) t)) (bind (get))"):
            self.fails(ScopeError, text)

    def test_a_macro_that_makes_a_macro(self):
        self.is_term("(macro mk ((mk k v e) (let x 1 (with k (((k) (pair x v))) e)))) (let x 7 (mk g x (let x 9 (pair x (g)))))",
                     let(0, num(7), let(1, num(1), let(2, num(9), app("pair", ref(2), app("pair", ref(1), ref(0)))))))
        self.is_term("(macro mk ((mk k v e) (with k (((k v x) (pair v x))) e))) (mk q x (q 1 2))", app("pair", num(1), num(2)))
        self.is_term("(macro mk ((mk k v e) (with k (((k x v) (pair v x))) e))) (mk q x (q 1 2))", app("pair", num(2), num(1)))
        self.is_term("(macro def ((m k p t e) (with k ((p t)) e))) (let t 1 (def q (q e) (let t e (pair t e)) (q t)))",
                     let(0, num(1), let(1, ref(0), app("pair", ref(1), ref(0)))))
        self.is_term("(macro mk ((m k n e) (with k (((k v) (let n v e))) (k 3)))) (let t 9 (mk q t (pair t t)))",
                     let(0, num(9), let(1, num(3), app("pair", ref(1), ref(1)))))
        self.is_term("(macro a ((a k) (with b (((b l x) (with l (((l k) (0 k x))) (l 5)))) (b z k)))) (let x 4 (a x))",
                     let(0, num(4), app(num(0), num(5), ref(0))))
        self.is_term("(macro two ((m a b e) (with a (((a x) (with b (((b y) (0 x y))) e))) (a 5)))) (two p q (q 6))",
                     app(num(0), num(5), num(6)))

    def test_one_use_that_introduces_the_same_name_twice(self):
        self.is_term("(macro m ((m) (fn (t) (let u t (pair t u))))) (m)", fn([0], let(1, ref(0), app("pair", ref(0), ref(1)))))
        self.is_term("(macro m ((m e) (let t 1 (pair t (let t e t))))) (let t 2 (m t))",
                     let(0, num(2), let(1, num(1), app("pair", ref(1), let(2, ref(0), ref(2))))))
        self.is_term("(macro m ((m e ...) (pair (let t e t) ...))) (let t 2 (m t 3))",
                     let(0, num(2), app("pair", let(1, ref(0), ref(1)), let(2, num(3), ref(2)))))
        self.fails(FormError, "(macro m ((m) (fn (x x) 1))) (m)")
        self.is_term("(macro m ((m n) (fn (n x) (n x)))) (m x)", fn([0, 1], app(ref(0), ref(1))))

    def test_two_uses_that_introduce_the_same_name(self):
        self.is_term("(macro m ((m) (fn (t) t)) ((m e) (fn (t) (pair t e)))) (m (m))",
                     fn([0], app("pair", ref(0), fn([1], ref(1)))))
        self.is_term("(macro k ((k a b) (fn (a b) (a b)))) (macro m ((m a) (k x a))) (m x)", fn([0, 1], app(ref(0), ref(1))))
        self.is_term("(macro lets ((m () () e) e) ((m (a b ...) (v w ...) e) (let t v (lets (b ...) (w ...) (let a t e)))))"
                     " (lets (x t) (1 2) (pair x t))",
                     let(0, num(1), let(1, num(2), let(2, ref(1), let(3, ref(0), app("pair", ref(3), ref(2)))))))
        self.is_term("(macro m ((m e) e) ((m e _ a ...) (fn (x) (m (e x) a ...)))) (m 0 1 2)",
                     fn([0], fn([1], app(app(num(0), ref(0)), ref(1)))))

    def test_names_of_forms_and_primitives_that_mean_something_else(self):
        self.is_term("(fn (+) (+ 1))", fn([0], app(ref(0), num(1))))
        self.is_term("(let if pair (if 1 2))", let(0, prim("pair"), app(ref(0), num(1), num(2))))
        self.is_term("(with let (((m a) a)) (let 5))", num(5))
        self.is_term("(macro pair ((m a b) (fn (a) b))) (pair head (head 1))", fn([0], app(ref(0), num(1))))
        self.is_term("(rec fn (rec) (fn rec))", rec(0, [1], app(ref(0), ref(1))))

    def test_templates_that_mean_the_form_or_the_primitive(self):
        self.is_term("(macro m ((m a) (if a 1 2))) (let if 5 (m if))", let(0, num(5), cond(ref(0), num(1), num(2))))
        self.is_term("(macro m ((m a) (+ a 1))) (fn (+) (m +))", fn([0], app("+", ref(0), num(1))))
        self.is_term("(macro m ((m) (let a 1 a))) (rec let () (m))", rec(0, [], let(1, num(1), ref(1))))
        self.is_term("(macro m ((m n) (rec n () (if 1 n 3)))) (m if)", rec(0, [], cond(num(1), ref(0), num(3))))
        self.is_term("(macro m ((m e) (fn (x) (+ x e)))) (macro fn ((k e) (pair e))) (fn (m (fn 1)))",
                     app("pair", fn([0], app("+", ref(0), app("pair", num(1))))))

    def test_errors(self):
        for kind, wrong, right in (
                (FormError, "", "5"), (FormError, "5 5", "(macro m ((m) 5)) 5"), (FormError, "(fn (a a) a)", "(fn (a b) a)"),
                (FormError, "(let _ 1 2)", "(let a 1 2)"), (FormError, "if", "(if 1 2 3)"), (FormError, "()", "(1)"),
                (FormError, "(macro m ((m a a) 1)) 5", "(macro m ((m a b) 1)) 5"),
                (FormError, "(macro m ((m) 1)) m", "(macro m ((m) 1)) (m)"),
                (MatchError, "(macro m ((m 1) 1)) (m 2)", "(macro m ((m 1) 1)) (m 1)"),
                (MatchError, "(macro m ((m (a ...) (b ...)) (0 (a b) ...))) (m (1) ())",
                 "(macro m ((m (a ...) (b ...)) (0 (a b) ...))) (m (1) (1))"),
                (ScopeError, "x", "(let x 1 x)"), (ScopeError, "(let x x 1)", "(let x 1 (let x x 1))"),
                (LimitError, "(macro m ((m) (m))) (m)", "(macro m ((m) 1)) (m)"),
                (LimitError, "(macro f ((m) 1)) (+" + " (f)" * 201 + ")", "(macro f ((m) 1)) (+" + " (f)" * 200 + ")"),
                (LimitError, "(macro f ((m) (+" + " 1" * 599 + "))) (f)", "(macro f ((m) (+" + " 1" * 598 + "))) (f)")):
            self.fails(kind, wrong)
            with self.subTest(text=right):
                self.assertIs(alike(expand(read(right)), expand_apart(read(right))), True)


if __name__ == "__main__":
    unittest.main()
