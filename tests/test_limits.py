import unittest

from sugartrue.errors import FormError, LimitError, MatchError, ScopeError
from sugartrue.reading import read
from support import EXPANDERS, Case, expanded

# (go E 0 0 0) is E after a use for each 0 and one more.
GO = "(macro go ((m e) e) ((m e 0 r ...) (go e r ...)))"


def going(text, uses):
    """A use of go, of which the text is the result, after as many uses."""
    return f"(go {text}{' 0' * (uses - 1)})"


def placed(text, depth):
    """A program in which the text stands so deep, behind so many uses."""
    return f"{GO} {going(text, depth)}" if depth else f"{GO} {text}"


class Uses(Case):
    """Point 19: the number of uses."""

    def test_200_uses(self):
        self.gives("(macro f ((m) 1)) (+" + " (f)" * 200 + ")", "(+" + " 1" * 200 + ")")
        self.fails(LimitError, "(macro f ((m) 1)) (+" + " (f)" * 201 + ")")

    def test_uses_of_all_macros_are_counted(self):
        start = "(macro f ((m) 1)) (macro g ((m) (f))) (with h (((h) (g))) (+"
        self.gives(start + " (h)" * 66 + " (g)))", "(+" + " 1" * 67 + ")")
        self.gives(start + " (h)" * 66 + " (f) (f)))", "(+" + " 1" * 68 + ")")
        self.fails(LimitError, start + " (h)" * 66 + " (g) (f)))")
        self.fails(LimitError, start + " (h)" * 67 + "))")

    def test_uses_in_items_that_are_not_expanded_do_not_count(self):
        self.gives("(macro f ((m) 1)) (macro drop ((m (a ...)) 2)) (drop (" + "(f) " * 201 + "))", "2")

    def test_items_that_are_used_twice_count_twice(self):
        start = "(macro f ((m) 1)) (macro dup ((m e) (pair e e))) (dup (+"
        self.gives(start + " (f)" * 99 + "))", "(pair" + (" (+" + " 1" * 99 + ")") * 2 + ")")
        self.fails(LimitError, start + " (f)" * 100 + "))")


class Instances(Case):
    """Point 19: the size of an instance."""

    def test_an_instance_of_600_trees(self):
        self.gives("(macro f ((m) (+" + " 1" * 598 + "))) (f)", "(+" + " 1" * 598 + ")")
        self.fails(LimitError, "(macro f ((m) (+" + " 1" * 599 + "))) (f)")

    def test_the_trees_of_the_use_count_too(self):
        self.gives("(macro f ((m a ...) (+ a ...))) (f" + " 1" * 598 + ")", "(+" + " 1" * 598 + ")")
        self.fails(LimitError, "(macro f ((m a ...) (+ a ...))) (f" + " 1" * 599 + ")")
        self.gives("(macro f ((m a) a)) (f (+" + " 1" * 598 + "))", "(+" + " 1" * 598 + ")")
        self.fails(LimitError, "(macro f ((m a) a)) (f (+" + " 1" * 599 + "))")

    def test_lists_and_all_trees_in_them_count(self):
        self.gives("(macro f ((m) (+" + " (1 2)" * 199 + " 3))) (f)", "(+" + " (1 2)" * 199 + " 3)")
        self.fails(LimitError, "(macro f ((m) (+" + " (1 2)" * 199 + " 3 4))) (f)")
        self.fails(LimitError, "(macro f ((m a ...) (+ (a 2) ... 3 4))) (f" + " 1" * 199 + ")")
        self.gives("(macro f ((m a ...) (+ (a 2) ... 3))) (f" + " 1" * 199 + ")", "(+" + " (1 2)" * 199 + " 3)")

    def test_a_tree_that_is_used_twice_counts_twice(self):
        self.gives("(macro f ((m a) (+ a a))) (f (+" + " 1" * 297 + "))", "(+" + (" (+" + " 1" * 297 + ")") * 2 + ")")
        self.fails(LimitError, "(macro f ((m a) (+ a a))) (f (+" + " 1" * 298 + "))")

    def test_other_trees_are_not_measured(self):
        self.gives("(+" + " 1" * 700 + ")", "(+" + " 1" * 700 + ")")
        self.gives("(macro f ((m _) 1)) (f (" + "1 " * 700 + "))", "1")
        self.gives("(macro f ((m) (" + "1 " * 700 + "))) 5", "5")


class Depth(Case):
    """Point 19: the depth of expressions."""

    def test_results_of_uses(self):
        self.gives(placed("7", 60), "7")
        self.fails(LimitError, placed("7", 61))
        self.gives(placed("head", 60), "head")
        self.fails(LimitError, placed("head", 61))

    def test_every_place_of_a_form_and_an_application(self):
        for form in ("(fn (a) E)", "(let a E 1)", "(let a 1 E)", "(rec f (a) E)", "(if E 1 2)", "(if 1 E 2)",
                     "(if 1 2 E)", "(with m (((m) 1)) E)", "(E)", "(E 1)", "(+ E)", "(+ 1 E)", "(+ 1 2 E 3)"):
            text = form
            for _ in range(9):
                text = form.replace("E", text)
            program = f"{GO} {text}"
            with self.subTest(form=form):
                term = expanded(program.replace("E", going("7", 50)))
                self.assertIn("7", repr(term))
                self.agrees(read(program.replace("E", going("7", 50))), term)
            self.fails(LimitError, program.replace("E", going("7", 51)))

    def test_names_and_rules_of_a_form_are_no_expressions(self):
        self.gives(placed("(fn (a b) 1)", 59), "(fn [0 1] 1)")
        self.gives(placed("(with m (((m (a) b) 1)) 2)", 59), "2")
        self.fails(LimitError, placed("(fn () 1)", 60))
        self.fails(LimitError, placed("(with m (((m) 1)) 2)", 60))

    def test_trees_that_are_nested_only(self):
        tree = ("int", 7)
        for _ in range(60):
            tree = ("list", [tree])
        for expander in EXPANDERS:
            term = expander([tree])
            for _ in range(60):
                self.assertEqual(term[0], "app")
                term = term[1]
            self.assertEqual(term[0], "int")
            with self.assertRaises(LimitError):
                expander([("list", [tree])])

    def test_deep_trees_that_are_no_expressions(self):
        self.gives("(macro m ((m _) 1)) (m " + "(" * 29 + ")" * 29 + ")", "1")
        tree = ("list", [])
        for index in range(80):
            tree = ("list", [("name", "a", index), tree, ("int", 1)])
        program = [("list", [("name", "with", 0), ("name", "m", 1), ("list", [("list", [
            ("list", [("name", "m", 2), ("name", "e", 3)]), ("int", 5)])]),
            ("list", [("name", "m", 4), tree])])]
        for expander in EXPANDERS:
            self.assertEqual(expander(program)[:2], ("int", 5))

    def test_recursion_without_an_end(self):
        self.fails(LimitError, "(macro m ((m) (m))) (m)")
        self.fails(LimitError, "(macro m ((m) (+ (m) (m)))) (m)")
        self.fails(LimitError, "(macro m ((m a ...) (m a ... a ...))) (m 1)")


class Order(Case):
    """Point 20."""

    def test_from_left_to_right(self):
        for left, right, found in (("x", "(fn)", ScopeError), ("(fn)", "x", FormError), ("(f 1)", "(fn)", MatchError),
                                   ("()", "(f 1)", FormError), ("(f 1)", "x", MatchError), ("x", "(f 1)", ScopeError)):
            for form in ("(+ L R)", "(L R)", "(L (R))", "(1 2 L R)", "(let a L R)", "(if L R 1)", "(if L 1 R)", "(if 1 L R)",
                         "((+ L) R)", "(+ (let a 1 L) R)", "(let a (fn () L) R)", "(fn (a) (L R))", "(with k (((k) 1)) (L R))"):
                program = "(macro f ((m) 1)) " + form.replace("L", left).replace("R", right)
                self.fails(found, program)

    def test_a_list_begins_with_the_meaning_of_its_first_item(self):
        self.fails(ScopeError, "(x (fn))")
        self.fails(ScopeError, "(x ())")
        self.fails(ScopeError, placed("(x 1)", 60))
        self.fails(FormError, placed("()", 60))
        self.fails(FormError, placed("(fn)", 60))
        self.fails(LimitError, placed("(+ (fn))", 60))
        self.fails(LimitError, placed("(1 x)", 60))
        self.fails(LimitError, placed("((fn) x)", 60))

    def test_the_depth_is_checked_first(self):
        for text in ("x", "()", "(x)", "(fn)", "fn", "(let 1 2 3)", "(go)", "(go 1 2)"):
            self.fails(LimitError, placed(text, 61))
        self.fails(ScopeError, placed("x", 60))
        self.fails(FormError, placed("fn", 60))
        self.fails(FormError, placed("(let 1 2 3)", 60))
        self.fails(MatchError, placed("(go)", 60))

    def test_the_number_of_uses_is_checked_before_the_rules(self):
        start = "(macro f ((m) 1)) (+" + " (f)" * 199
        self.fails(MatchError, start + " (f 1))")
        self.fails(LimitError, start + " (f) (f 1))")
        self.fails(ScopeError, start + " (f) (g))")
        self.fails(FormError, start + " (f) (fn) (f))")

    def test_a_form_is_checked_before_anything_in_it(self):
        for text in ("(let a x)", "(let 1 x 2)", "(let _ x 2)", "(let a x 2 3)", "(if x)", "(if x x x x)", "(fn (a a) x)",
                     "(fn (1) x)", "(fn x x)", "(fn () x x)", "(rec f (f) x)", "(rec f () x x)", "(rec 1 () x)",
                     "(with m () x)", "(with 1 (((m) 1)) x)", "(with m (((m) _)) x)", "(with m (((m) 1) 2) x)",
                     "(with m (((m) 1)) x x)", "(let a (f 1))", "(if (f 1))"):
            self.fails(FormError, "(macro f ((m) 1)) " + text)
        self.fails(FormError, placed("(let 1 2 3)", 60))
        self.fails(LimitError, placed("(let a x 3)", 60))

    def test_the_variable_of_a_let_is_numbered_after_its_value(self):
        self.gives("(let a (let b 1 b) a)", "(let 1 (let 0 1 $0) $1)")
        self.gives("(let a (fn (b c) b) (let d a d))", "(let 2 (fn [0 1] $0) (let 3 $2 $3))")

    def test_an_instance_is_measured_when_it_is_finished(self):
        both = "(macro f ((m (a ...) (b ...)) (+" + " 1" * 600 + " (a b) ...))) "
        self.fails(MatchError, both + "(f (1) ())")
        self.fails(LimitError, both + "(f (1) (2))")

    def test_an_instance_is_measured_before_it_is_expanded(self):
        self.fails(LimitError, "(macro f ((m) (x" + " 1" * 600 + "))) (f)")
        self.fails(LimitError, "(macro f ((m) (fn" + " 1" * 600 + "))) (f)")
        self.fails(ScopeError, "(macro f ((m) (x" + " 1" * 598 + "))) (f)")

    def test_definitions_come_before_the_expression(self):
        self.fails(FormError, "(macro m ((m) _)) x")
        self.fails(FormError, "(macro m ((m) 1)) 5 x")
        self.fails(FormError, "(macro m ((m) 1)) (macro k) (m 1)")
        self.fails(ScopeError, "(macro m ((m) 1)) (macro k ((k) x)) (k)")

    def test_the_rules_of_a_with_are_checked_where_it_is_expanded(self):
        self.fails(ScopeError, "(+ x (with m (((m) _)) 1))")
        self.fails(FormError, "(+ (with m (((m) _)) 1) x)")
        self.fails(FormError, "(with m (((m) _)) x)")
        self.fails(FormError, "(with m (((m) 1)) (+ (with k (((k a a) 1)) x) x))")
        self.gives("(macro m ((m) (with k () 1))) 5", "5")
        self.gives("(macro drop ((m e) 5)) (drop (with k (((k) _)) 1))", "5")
        self.fails(FormError, "(macro m ((m) (with k () x))) (m)")


if __name__ == "__main__":
    unittest.main()
