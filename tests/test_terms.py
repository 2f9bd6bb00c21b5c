import unittest

from build import NOWHERE, parts_of
from sugartrue.reading import read
from support import Case, expanded


class Terms(Case):
    """Point 21 without alike; the second expander gives the same terms but for the origins."""

    def is_term(self, text, term):
        with self.subTest(text=text):
            self.assertEqual(expanded(text), term)
            self.agrees(read(text), term)

    def test_the_example(self):
        self.is_term("(macro twice ((m e) (let t e (+ t t)))) (let t 5 (twice t))", (
            "let", 0, ("int", 5, NOWHERE), (
                "let", 1, ("ref", 0, NOWHERE), (
                    "app", ("prim", "+", (0, (), -1)), [("ref", 1, (0, (), -1)), ("ref", 1, (0, (), -1))],
                    (0, (), -1)), (0, (0,), 0)), NOWHERE))

    def test_what_stands_in_the_source(self):
        one = ("int", 1, NOWHERE)
        self.is_term("-1", ("int", -1, NOWHERE))
        for text in ("+", "-", "*", "<", "=", "pair", "head", "tail", "none"):
            self.is_term(text, ("prim", text, NOWHERE))
        self.is_term("(fn () 1)", ("fn", [], one, NOWHERE))
        self.is_term("(fn (a b) b)", ("fn", [0, 1], ("ref", 1, NOWHERE), NOWHERE))
        self.is_term("(rec f () 1)", ("rec", 0, [], one, NOWHERE))
        self.is_term("(rec f (a b) f)", ("rec", 0, [1, 2], ("ref", 0, NOWHERE), NOWHERE))
        self.is_term("(let a 1 a)", ("let", 0, one, ("ref", 0, NOWHERE), NOWHERE))
        self.is_term("(if 1 + 1)", ("if", one, ("prim", "+", NOWHERE), one, NOWHERE))
        self.is_term("(1)", ("app", one, [], NOWHERE))
        self.is_term("(+ 1 1)", ("app", ("prim", "+", NOWHERE), [one, one], NOWHERE))
        self.is_term("(with m (((m) 1)) (1))", ("app", one, [], NOWHERE))

    def test_what_a_use_introduced(self):
        made = (0, (), -1)
        self.is_term("(macro m ((m) 1)) (m)", ("int", 1, (0, (0,), -1)))
        self.is_term("(macro m ((m) +)) (m)", ("prim", "+", (0, (0,), -1)))
        self.is_term("(macro m ((m) (fn (a) 1))) (m)", ("fn", [0], ("int", 1, made), (0, (0,), 0)))
        self.is_term("(macro m ((m) (rec f (a) f))) (m)", ("rec", 0, [1], ("ref", 0, made), (0, (0,), 0)))
        self.is_term("(macro m ((m) (let a 1 a))) (m)",
                     ("let", 0, ("int", 1, made), ("ref", 0, made), (0, (0,), 0)))
        self.is_term("(macro m ((m) (if 1 - 2))) (m)",
                     ("if", ("int", 1, made), ("prim", "-", made), ("int", 2, made), (0, (0,), 0)))
        self.is_term("(macro m ((m) (+ (1)))) (m)",
                     ("app", ("prim", "+", made), [("app", ("int", 1, made), [], made)], (0, (0,), -1)))
        self.is_term("(let a 1 (with m (((m) a)) (m)))",
                     ("let", 0, ("int", 1, NOWHERE), ("ref", 0, (0, (0,), -1)), NOWHERE))

    def test_what_a_use_takes_from_its_items(self):
        self.is_term("(macro m ((m e) (+ e 2))) (m (- 3))", (
            "app", ("prim", "+", (0, (), -1)),
            [("app", ("prim", "-", NOWHERE), [("int", 3, NOWHERE)], NOWHERE), ("int", 2, (0, (), -1))], (0, (0,), -1)))
        self.is_term("(macro m ((m n e) (fn (n) e))) (m a a)", ("fn", [0], ("ref", 0, NOWHERE), (0, (0,), 0)))

    def test_the_name_of_a_form_from_another_place_than_its_list(self):
        rest = [("int", n, (0, (), -1)) for n in (1, 2, 3)]
        self.is_term("(macro m ((m f) (f 1 2 3))) (m if)", ("if", *rest, (0, (0,), -1)))
        self.is_term("(macro m ((m f) (f () 1))) (let a 1 (m fn))",
                     ("let", 0, ("int", 1, NOWHERE), ("fn", [], ("int", 1, (0, (), -1)), (0, (0,), -1)), NOWHERE))
        self.is_term("(macro m ((m f) (f a 1 a))) (m let)",
                     ("let", 0, ("int", 1, (0, (), -1)), ("ref", 0, (0, (), -1)), (0, (0,), -1)))
        self.is_term("(macro m ((m f) (f a () 1))) (m rec)", ("rec", 0, [], ("int", 1, (0, (), -1)), (0, (0,), -1)))
        self.is_term("(macro m ((m f) (f () 1))) (macro k ((k) (m fn))) (k)",
                     ("fn", [], ("int", 1, (1, (), -1)), (1, (0, 1), 0)))

    def test_the_head_of_other_terms(self):
        self.is_term("(macro m ((m f) (f))) (m +)", ("app", ("prim", "+", NOWHERE), [], (0, (0,), -1)))
        self.is_term("(macro m ((m) ((fn () 1)))) (m)",
                     ("app", ("fn", [], ("int", 1, (0, (), -1)), (0, (), 0)), [], (0, (0,), -1)))

    def test_nested_results(self):
        chain = "(macro a ((m) 5)) (macro b ((m) (a))) (macro c ((m) (b))) "
        self.is_term(chain + "(c)", ("int", 5, (2, (0, 1, 2), -1)))
        self.is_term(chain + "(0 (b) (c) (a))", (
            "app", ("int", 0, NOWHERE), [("int", 5, (1, (0, 1), -1)), ("int", 5, (4, (2, 3, 4), -1)),
                                         ("int", 5, (5, (5,), -1))], NOWHERE))
        self.is_term("(macro k ((k e) (fn () e))) (macro m ((m) (k 1))) (m)",
                     ("fn", [], ("int", 1, (0, (), -1)), (1, (0, 1), 1)))

    def test_a_use_inside_of_what_another_one_introduced(self):
        self.is_term("(macro a ((m) 5)) (macro b ((m) (0 (a) 1))) (b)", (
            "app", ("int", 0, (0, (), -1)), [("int", 5, (1, (1,), -1)), ("int", 1, (0, (), -1))], (0, (0,), -1)))

    def test_a_result_that_is_only_an_item_of_the_use(self):
        keep = "(macro keep ((m e) e)) "
        self.is_term(keep + "(keep 5)", ("int", 5, (-1, (0,), -1)))
        self.is_term(keep + "(keep (keep 5))", ("int", 5, (-1, (0, 1), -1)))
        self.is_term(keep + "(keep (+ (keep 5)))", (
            "app", ("prim", "+", NOWHERE), [("int", 5, (-1, (1,), -1))], (-1, (0,), -1)))
        self.is_term(keep + "(keep (fn (a) a))", ("fn", [0], ("ref", 0, NOWHERE), (-1, (0,), -1)))
        self.is_term(keep + "(macro m ((m) (keep (if 1 2 3)))) (m)", (
            "if", *[("int", n, (0, (), -1)) for n in (1, 2, 3)], (0, (0, 1), 0)))

    def test_the_result_of_a_with_is_that_of_its_body(self):
        self.is_term("(with m (((m e) e)) (m 3))", ("int", 3, (-1, (0,), -1)))
        self.is_term("(with m (((m) 1)) (with k (((k) (m))) (k)))", ("int", 1, (1, (0, 1), -1)))
        self.is_term("(macro w ((m) (with k (((k) 7)) (k)))) (w)", ("int", 7, (1, (0, 1), -1)))
        self.is_term("(macro w ((m e) (with k (((k) 7)) e))) (w 4)", ("int", 4, (-1, (0,), -1)))
        self.is_term("(macro w ((m e) (with k (((k) 7)) (fn () e)))) (w 4)",
                     ("fn", [], ("int", 4, NOWHERE), (0, (0,), 0)))
        self.is_term("(macro w ((m e) (with k (((k x) (+ x 1))) (k e)))) (w 2)", (
            "app", ("prim", "+", (1, (), -1)), [("int", 2, NOWHERE), ("int", 1, (1, (), -1))], (1, (0, 1), -1)))
        self.is_term("(macro keep ((m e) e)) (keep (with k (((k) 7)) (keep (k))))", ("int", 7, (2, (0, 1, 2), -1)))

    def test_results_belong_to_the_whole_term_only(self):
        term = expanded("(macro m ((m e) (let t e (if t (fn (a) a) (rec f () f))))) (m (+ 1 2))")
        self.assertEqual(term[-1], (0, (0,), 0))
        for part in parts_of(term)[1:]:
            self.assertEqual(part[-1][1], ())

    def test_an_instance_introduces_anew_what_its_template_was_introduced_with(self):
        self.is_term("(macro mk ((m k) (with k (((k) 5)) (0 (k) (k))))) (mk q)", (
            "app", ("int", 0, (0, (), -1)), [("int", 5, (1, (1,), -1)), ("int", 5, (2, (2,), -1))], (0, (0,), -1)))

    def test_the_numbers_of_variables(self):
        for text, expected in (
                ("(fn (a b) (fn (c) (0 c b a)))", "(fn [0 1] (fn [2] (0 $2 $1 $0)))"),
                ("(rec f (a) (rec g (b) (0 f a g b)))", "(rec 0 [1] (rec 2 [3] (0 $0 $1 $2 $3)))"),
                ("(0 (fn (a) a) (let a 1 a) (rec a () a))", "(0 (fn [0] $0) (let 1 1 $1) (rec 2 [] $2))"),
                ("((fn (a) a) (fn (a) a))", "((fn [0] $0) (fn [1] $1))"),
                ("(if (fn (a) a) (fn (a) a) (fn (a) a))", "(if (fn [0] $0) (fn [1] $1) (fn [2] $2))"),
                ("(let a (let b (let c 1 c) b) a)", "(let 2 (let 1 (let 0 1 $0) $1) $2)"),
                ("(macro m ((m e) (0 e e))) (m (fn (a) a))", "(0 (fn [0] $0) (fn [1] $1))"),
                ("(macro m ((m e) 1)) (0 (m (fn (a) a)) (fn (a) a))", "(0 1 (fn [0] $0))"),
                ("(with m (((m a) (fn (a) a))) (fn (b) b))", "(fn [0] $0)")):
            self.gives(text, expected)

    def test_the_numbers_of_uses(self):
        term = expanded("(macro f ((m) 1) ((m e) (+ e)) ((m a b) (a b))) (0 (f) (f (f (f))) (f (f) (f)))")
        self.assertEqual([part[-1][:2] for part in parts_of(term)], [
            (-1, ()), (-1, ()), (0, (0,)), (1, (1,)), (1, ()), (2, (2,)), (2, ()), (3, (3,)),
            (4, (4,)), (5, (5,)), (6, (6,))])
        self.is_term("(macro f ((m) 1)) (let a (f) (with g (((g) 2)) (g)))", (
            "let", 0, ("int", 1, (0, (0,), -1)), ("int", 2, (1, (1,), -1)), NOWHERE))

    def test_the_kinds_of_values(self):
        term = expanded("(macro m ((m e) (fn (a) (rec f (b) (let c e (if a b (f c))))))) (m 1)")
        for part in parts_of(term):
            self.assertIs(type(part), tuple)
            self.assertIs(type(part[-1]), tuple)
            self.assertEqual([type(item) for item in part[-1]], [int, tuple, int])
        self.assertIs(type(term[1]), list)
        self.assertIs(type(term[2][2]), list)
        self.assertIs(type(expanded("(+ 1)")[2]), list)


if __name__ == "__main__":
    unittest.main()
