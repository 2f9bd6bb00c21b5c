import unittest

from sugartrue.errors import FormError, MatchError
from support import Case


class Checked(Case):
    """Points 10 and 11, and the part of 18 about them."""

    def refuses(self, rule):
        self.fails(FormError, f"(macro m {rule}) 5")
        self.fails(FormError, f"(with m ({rule}) 5)")
        self.fails(FormError, f"(macro m ((m) 0) {rule}) 5")
        self.fails(FormError, f"(macro k ((k) (with m ({rule}) 5))) (k)")

    def takes(self, rule):
        self.gives(f"(macro m {rule}) 5", "5")
        self.gives(f"(with m ({rule}) 5)", "5")
        self.gives(f"(macro m ((m) 0) {rule}) 5", "5")

    def test_patterns_with_dots_in_a_wrong_place(self):
        for pattern in ("(m ...)", "(m ... a)", "(m a ... b)", "(m a ... ...)", "(m a ... b ...)", "(... a)", "(...)",
                        "(m (...))", "(m (... a))", "(m (... ...))", "(m (a ... b))", "(m (a ... ...))",
                        "(m ((a ... b)))", "(m (...) ...)", "(m (a ... b ...))", "(m (a ... 1) c ...)"):
            self.refuses(f"({pattern} 1)")

    def test_patterns_with_a_variable_twice(self):
        for pattern in ("(m a a)", "(m a b a)", "(m a (b a))", "(m (a) (a))", "(m a (a ...))", "(m (a a) ...)",
                        "(m (a ...) a ...)", "(m + +)", "(m a a ...)"):
            self.refuses(f"({pattern} 1)")

    def test_patterns_with_a_repeated_item_without_a_variable(self):
        for pattern in ("(m _ ...)", "(m 1 ...)", "(m () ...)", "(m (_ 1) ...)", "(m (_ ...))", "(m a (1 ...))",
                        "(m ((1 ...) a) ...)", "(m ((_)) ...)", "(m ((_ ...) ...))"):
            self.refuses(f"({pattern} 1)")

    def test_patterns_that_are_correct(self):
        for pattern in ("(m)", "(_)", "(m m)", "(m a)", "(m a ...)", "(m a b ...)", "(m (a ...) ...)", "(m (a ...))",
                        "(m ((a ...) ...) b ...)", "(m _ _ (_ _))", "(m (a _ 1) ...)", "(m () -1 (()))", "(m _ a ...)",
                        "(m (_ a ...) (1 b ...))", "(m (a (b ...) ...) ...)", "(m + - let macro)", "(m ((a) ...) ...)"):
            self.takes(f"({pattern} 1)")

    def with_variables(self, template):
        """A rule with the variable e of depth 0, a and b of depth 1, and c of depth 2."""
        return f"((m e (a ...) (b ...) ((c ...) ...)) {template})"

    def test_templates_with_dots_or_lines_in_a_wrong_place(self):
        for template in ("...", "_", "(...)", "(... e)", "(... a ...)", "(a ... ...)", "(e (...))", "(_)", "(+ _)",
                         "((_ a) ...)", "(a ... (... 1))", "((c ... ...) ...)", "(((c ...) ...) ... 1 ...)"):
            self.refuses(self.with_variables(template))

    def test_templates_with_a_variable_at_a_wrong_depth(self):
        for template in ("(e ...)", "a", "(a)", "((a ...) ...)", "(+ a)", "c", "(c ...)", "((c) ...)", "(((c ...) ...) ...)",
                         "((e a) ...)", "((c a) ...)", "((a b) ... a)", "((c ...) ... c)", "((e c ...) ...)",
                         "(((a c) ...) ...)"):
            self.refuses(self.with_variables(template))

    def test_templates_with_a_repeated_item_without_a_variable(self):
        for template in ("(1 ...)", "(x ...)", "(() ...)", "((+ 1) ...)", "(m ...)", "((a (1 ...)) ...)",
                         "((c ... (x ...)) ...)"):
            self.refuses(self.with_variables(template))

    def test_templates_that_are_correct(self):
        for template in ("e", "5", "x", "()", "(a ...)", "(a ... a ...)", "(a ... e b ... 1)", "((c ...) ...)",
                         "((a 1) ...)", "((a (c ...)) ...)", "((a b) ...)", "(e (a ...) (((c 1) ...) ...))", "(x 1 (y))",
                         "((c ... c ...) ...)", "((a c ...) ...)", "(m e)"):
            self.takes(self.with_variables(template))

    def test_every_rule_is_checked(self):
        for text in ("((m) 1) ((m) _)", "((m) _) ((m) 1)", "((m a a) 1) ((m) 1)", "((m) 1) ((m) 1) ((m a a) 1)"):
            self.fails(FormError, f"(macro m {text}) 5")
            self.fails(FormError, f"(with m ({text}) 5)")


class Matched(Case):
    """Points 9 and 13."""

    def matches(self, pattern, items, expected=True):
        text = f"(macro m ((m {pattern}) 1) ((m x ...) 0)) (m {items})"
        self.gives(text, "1" if expected else "0")

    def test_lines_match_every_tree(self):
        for tree in ("1", "x", "_", "...", "()", "(a (b))", "fn"):
            self.matches("_", tree)
            self.matches("(_)", f"({tree})")
        self.matches("_", "", False)
        self.matches("_", "1 2", False)
        self.matches("_ _", "1 x")

    def test_variables_match_every_tree(self):
        for tree in ("1", "x", "_", "...", "()", "(a (b))", "fn"):
            self.matches("a", tree)
        self.matches("a", "", False)
        self.matches("a", "1 2", False)

    def test_integers_match_the_same_integer(self):
        self.matches("1", "1")
        self.matches("-1", "-1")
        self.matches("0", "0")
        for tree in ("2", "-1", "x", "()", "(1)", "11", "0"):
            self.matches("1", tree, False)

    def test_lists_match_item_by_item(self):
        self.matches("()", "()")
        self.matches("(a 1)", "(x 1)")
        self.matches("(a (b) ())", "(x (1) ())")
        for tree in ("1", "x", "(1)", "(x 2)", "(x 1 1)", "()", "((x 1))"):
            self.matches("(a 1)", tree, False)
        for tree in ("1", "x", "(1)", "(())"):
            self.matches("()", tree, False)

    def test_repetitions(self):
        for items in ("", "1", "1 x ()"):
            self.matches("a ...", items)
            self.matches("(a ...)", f"({items})")
            self.matches("7 a ...", "7 " + items)
        self.matches("a b ...", "", False)
        self.matches("a b ...", "1")
        self.matches("a b c ...", "1", False)
        self.matches("(a ...)", "x", False)
        self.matches("(a ...)", "() ()", False)

    def test_every_repetition_must_match(self):
        self.matches("(a 1) ...", "(x 1) (y 1)")
        self.matches("(a 1) ...", "")
        self.matches("(a 1) ...", "(x 1) (y 2)", False)
        self.matches("(a 1) ...", "(x 1) y", False)
        self.matches("(a 1) ...", "x (y 1)", False)

    def test_repetitions_at_depth_2(self):
        for items in ("", "()", "() (1)", "(1 2) () (3 4 5)"):
            self.matches("(a ...) ...", items)
        self.matches("(a ...) ...", "(1) 2", False)
        self.matches("(a b ...) ...", "(1) (1 2)")
        self.matches("(a b ...) ...", "(1) ()", False)

    def test_a_use_without_items(self):
        self.gives("(macro m ((m) 1)) (m)", "1")
        self.fails(MatchError, "(macro m ((m) 1)) (m 1)")
        self.fails(MatchError, "(macro m ((m a) 1)) (m)")

    def test_the_first_rule_that_matches(self):
        three = "(macro m ((m 0) 10) ((m (a)) (pair a 20)) ((m a) (pair a 30)))"
        self.gives(f"{three} (m 0)", "10")
        self.gives(f"{three} (m (5))", "(pair 5 20)")
        self.gives(f"{three} (m (+))", "(pair + 20)")
        self.gives(f"{three} (m 1)", "(pair 1 30)")
        self.gives(f"{three} (m (+ 1))", "(pair (+ 1) 30)")
        self.gives("(with m (((m a) 1) ((m b) 2)) (m 5))", "1")
        self.gives("(with m (((m a b) 1) ((m b) 2)) (m 5))", "2")

    def test_no_rule_that_matches(self):
        for use in ("(m)", "(m 1 2)", "(m 1)", "(m (a))", "(m x)"):
            self.fails(MatchError, f"(macro m ((m 0) 1) ((m ()) 2)) {use}")
            self.fails(MatchError, f"(with m (((m 0) 1) ((m ()) 2)) {use})")

    def test_a_pattern_variable_of_one_rule_is_none_of_another(self):
        self.gives("(let a 9 (with m (((m a 0) a) ((m b c) a)) (pair (m 1 0) (m 1 2))))", "(let 0 9 (pair 1 $0))")

    def test_the_result_is_expanded_in_place_of_the_use(self):
        self.gives("(macro m ((m a) (let t a t))) (+ (m 1) 2 (m 3))", "(+ (let 0 1 $0) 2 (let 1 3 $1))")
        self.gives("(macro m ((m) +)) ((m) 1 2)", "(+ 1 2)")
        self.gives("(macro m ((m a) (k a))) 5", "5")
        self.gives("(macro k ((k a) (pair a a))) (macro m ((m a) (k a))) (m 1)", "(pair 1 1)")


class Instances(Case):
    """Point 12, and what 9 says of the values of variables."""

    def test_variables_of_depth_0(self):
        self.gives("(macro m ((m a (b c)) (0 c a b a))) (m 1 (2 (+ 3)))", "(0 (+ 3) 1 2 1)")

    def test_integers_and_other_names_stand_for_themselves(self):
        self.gives("(macro m ((m a) (+ -3 a (head tail)))) (m 1)", "(+ -3 1 (head tail))")

    def test_lists(self):
        self.gives("(macro m ((m a) ((a) (0 (a 1))))) (m +)", "((+) (0 (+ 1)))")
        self.gives("(macro m ((m) (fn () 1))) (m)", "(fn [] 1)")

    def test_repeated_items_at_depth_1(self):
        for items, expected in (("", ""), ("1", " 1"), ("1 2 3", " 1 2 3")):
            self.gives(f"(macro m ((m a ...) (0 a ...))) (m {items})", f"(0{expected})")
            self.gives(f"(macro m ((m (a ...) b) (0 b a ... b))) (m ({items}) 9)", f"(0 9{expected} 9)")
        self.gives("(macro m ((m a ...) (0 a ... 5 a ...))) (m 1 2)", "(0 1 2 5 1 2)")
        self.gives("(macro m ((m a ...) (0 (+ a 1) ...))) (m 2 3)", "(0 (+ 2 1) (+ 3 1))")
        self.gives("(macro m ((m a b ...) (0 b ... a))) (m 1 2 3)", "(0 2 3 1)")

    def test_several_variables_in_a_repeated_item(self):
        self.gives("(macro m ((m (a b) ...) (0 (b a) ...))) (m (1 2) (3 4))", "(0 (2 1) (4 3))")
        self.gives("(macro m ((m (a b) ...) (0 a ... b ...))) (m (1 2) (3 4))", "(0 1 3 2 4)")
        self.gives("(macro m ((m (a ...) (b ...)) (0 (a b) ...))) (m (1 2) (3 4))", "(0 (1 3) (2 4))")
        self.gives("(macro m ((m (n v) ...) ((fn (n ...) (0 n ...)) v ...))) (m (p 1) (q 2))",
                   "((fn [0 1] (0 $0 $1)) 1 2)")

    def test_repeated_items_at_depth_2(self):
        twice = "(macro m ((m (a ...) ...) (0 (1 a ...) ...)))"
        self.gives(f"{twice} (m)", "(0)")
        self.gives(f"{twice} (m ())", "(0 (1))")
        self.gives(f"{twice} (m (2 3) () (4))", "(0 (1 2 3) (1) (1 4))")
        self.gives("(macro m ((m (n a ...) ...) (0 (n (+ a 9) ...) ...))) (m (1 2 3) (4))", "(0 (1 (+ 2 9) (+ 3 9)) (4))")
        self.gives("(macro m ((m (n a ...) ...) (0 n ... (1 a ...) ...))) (m (5 6) (7))", "(0 5 7 (1 6) (1))")
        self.gives("(macro m ((m (a ...) (b ...) ...) (0 (a b ...) ...))) (m (1 2) (3) (4 5))", "(0 (1 3) (2 4 5))")

    def test_repetitions_of_unequal_number(self):
        pairs = "(macro m ((m (a ...) (b ...)) (0 (a b) ...)))"
        self.gives(f"{pairs} (m () ())", "(0)")
        for items in ("(1) ()", "() (1)", "(1 2) (1)", "(1) (1 2 3)"):
            self.fails(MatchError, f"{pairs} (m {items})")
        rows = "(macro m ((m (a ...) (b ...) ...) (0 (a b ...) ...)))"
        self.fails(MatchError, f"{rows} (m (1 2) (3))")
        self.fails(MatchError, f"{rows} (m (1) (3) (4))")
        inner = "(macro m ((m ((a ...) ...) ((b ...) ...)) (0 (1 (a b) ...) ...)))"
        self.gives(f"{inner} (m ((1) (2 3)) ((4) (5 6)))", "(0 (1 (1 4)) (1 (2 5) (3 6)))")
        self.fails(MatchError, f"{inner} (m ((1) (2 3)) ((4) (5)))")
        self.fails(MatchError, f"{inner} (m ((1) (2 3)) ((4)))")

    def test_unequal_repetitions_do_not_try_the_next_rule(self):
        self.fails(MatchError, "(macro m ((m (a ...) (b ...)) (0 (a b) ...)) ((m x y) 7)) (m (1) ())")

    def test_unequal_numbers_outside_of_one_repeated_item_are_no_fault(self):
        self.gives("(macro m ((m (a ...) (b ...)) (0 a ... b ...))) (m (1) (2 3))", "(0 1 2 3)")

    def test_deep_trees(self):
        grow = "(macro m ((m a) 5) ((m a n r ...) (m ((((((((((a)))))))))) r ...)))"
        self.gives(f"{grow} (m 1" + " 0" * 45 + ")", "5")
        made = ("(macro m ((m a) (with k (((k a) 7) ((k b) 6)) (k 1)))"
                " ((m a n r ...) (m ((((((((((a)))))))))) r ...)))")
        self.gives(f"{made} (m (x)" + " 0" * 50 + ")", "6")
        made = made.replace("(k 1)", "(pair (k 1) (k a))")
        self.gives(f"{made} (m (x)" + " 0" * 25 + ")", "(pair 6 7)")


if __name__ == "__main__":
    unittest.main()
