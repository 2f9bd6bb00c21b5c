"""Point 28: matching the template of a rule with what it has become."""

import unittest

from sugartrue.errors import SugarError
from sugartrue.expanding import Macro, Use
from sugartrue.reading import read, write
from sugartrue.rules import read_rule
from sugartrue.trees import NO_INDEX, Group, Integer, Name, grow, plain
from sugartrue.undoing import Undoing
from support import ShowCase


class Repeated(ShowCase):
    def test_at_depth_1(self):
        for use in ("(m)", "(m 1)", "(m 1 2)", "(m 1 (+ 2 3) (m))", "(m (m 1) (m 1 2) (m) 4)"):
            self.shows_after("(macro m ((m e ...) (fn () (0 e ...))))", use)
            self.shows_after("(macro m ((m e ...) (fn () (0 e ... 1 2))))", use)
            self.shows_after("(macro m ((m e ...) (fn () (0 1 e ...))))", use)
            self.shows_after("(macro m ((m e ...) (fn () ((fn () 1) e ...))))", use)
            self.shows_after("(macro m ((m e ...) (fn () (0 (- 1 e) ...))))", use)
            self.shows_after("(macro m ((m e ...) (fn () (0 (let t e (t t)) ... 1))))", use)

    def test_with_steps(self):
        self.shows_after("(macro m ((m a e ...) (pair 0 (a e ...))))", "(m + (* 1 2) (+ 1 2))", "(m + 2 (+ 1 2))", "(m + 2 3)",
                         None, None)
        self.shows_after("(macro m ((m e ...) (+ e ...)))", "(m 1 (+ 2 3) 4)", "(m 1 5 4)")
        self.shows_after("(macro m ((m e ... ) (pair (e 1) ...)))", "(m (fn (x) (+ x 1)) (fn (x) 2))", None, None, None, "(pair 2 2)")

    def test_names_in_a_repeated_item(self):
        self.shows_after("(macro lets ((m ((n v) ...) e) ((fn (n ...) e) v ...)))", "(lets ((a (+ 1 2)) (b 4)) (- a b))",
                         "(lets ((a 3) (b 4)) (- a b))", "(- 3 4)", "-1")
        self.shows_after("(macro lets ((m ((n v) ...) e) ((fn (n ...) e) v ...)))", "(lets () (+ 1 2))", "(+ 1 2)", "3")

    def test_behind_other_items_of_the_pattern(self):
        for use in ("(m 1 (2))", "(m 1 (2) 3 4)", "(m 1 (2 3 (4 5)))", "(m 1 (2 3) 4 5)"):
            self.shows_after("(macro m ((m a (b c ...) d ...) (fn () (0 d ... (a b) (1 c ...)))))", use)

    def test_at_depth_2(self):
        for use in ("(m)", "(m ())", "(m () ())", "(m (1))", "(m (1 2) () (3))", "(m (1 (m (2) ())) ((m)))"):
            self.shows_after("(macro m ((m (e ...) ...) (fn () (0 (1 e ... 2) ... 3))))", use)
            self.shows_after("(macro m ((m (e ...) ...) (fn () (0 (1 (2 e) ...) ...))))", use)
            self.shows_after("(macro m ((m (e ...) ...) (fn () (0 ((fn () (e ... 3))) ...))))", use)

    def test_at_depths_1_and_2(self):
        self.shows_after("(macro m ((m (a b ...) ...) (fn () (0 (a b ...) ...))))", "(m (1) (+ 2 3) (- 4))")
        self.shows_after("(macro m ((m (a b ...) ...) (fn () (0 (1 a ...) (0 (b ... 2) ...)))))", "(m (1) (+ 2 3) (- 4))")
        self.shows_after("(macro m ((m (a b ...) ...) (fn () (0 (1 a ...) (0 (b ... 2) ...)))))", "(m)")

    def test_two_variables_in_one_repeated_item(self):
        for use in ("(m () ())", "(m (1) (2))", "(m (1 (+ 2 3)) (+ (m () ())))"):
            self.shows_after("(macro m ((m (a ...) (b ...)) (fn () (0 (a b) ... 1))))", use)

    def test_two_repeated_items_in_one_list(self):
        for use in ("(m () ())", "(m (1) ())", "(m (1) (2 3))"):
            definition = "(macro m ((m (a ...) (b ...)) (fn () (0 a ... b ...))))"
            self.shows(f"{definition} {use}", None)
            self.shows(f"{definition} (head (pair (+ 1 2) {use}))", None, None, None, "3")
            self.shows(f"(macro m ((m (a ...) (b ...)) (fn () (0 (1 (a) ... 2 (b) ...))))) {use}", None)
            # In two lists they can be told apart.
            self.shows_after("(macro m ((m (a ...) (b ...)) (fn () (0 (1 a ...) (2 b ...)))))", use)
        # The same variable twice.
        self.shows("(macro m ((m a ...) (fn () (0 a ... a ...)))) (m 1)", None)

    def test_a_rule_with_two_repeated_items_that_is_not_used(self):
        self.shows_after("(macro m ((m 0 a ...) (+ a ... a ...)) ((m a ...) (+ a ...)))", "(m 1 (+ 2 3))", "(m 1 5)", "6")


class Twice(ShowCase):
    def test_with_equal_trees(self):
        self.shows_after("(macro m ((m e) (fn () (e e e))))", "(m 1)")
        self.shows_after("(macro m ((m e) (fn () (e e e))))", "(m (fn (a) (let b a (m (m b)))))")
        self.shows_after("(macro m ((m e f) (fn (t) (if e (f e) (let u f (u e))))))", "(m (+ 1 2) (m 3 4))")

    def test_with_other_trees(self):
        self.shows_after("(macro m ((m e) (pair e e)))", "(m (+ 1 2))", None, "(m 3)", "(pair 3 3)")
        self.shows_after("(macro m ((m e) (pair e e)))", "(m (pair 1 2))", "(m (pair 1 2))", "(m (pair 1 2))",
                         "(pair (pair 1 2) (pair 1 2))")
        self.shows_after("(macro m ((m e) (+ e (* 2 e))))", "(m (- 5 4))", None, "(m 1)", None, "3")

    def test_with_trees_of_which_one_was_introduced(self):
        # The item of dup was introduced as a list by m; its first copy is a pair now, which no use introduced.
        self.shows("(macro dup ((dup e) (pair e (fn () e)))) (macro m ((m) (dup (pair 1 2)))) (m)",
                   "(m)", None, None)
        self.shows("(macro dup ((dup e) (pair (fn () e) e))) (macro m ((m) (dup (pair 1 2)))) (m)",
                   "(m)", None, None)
        self.shows("(macro dup ((dup e) (pair (fn () e) e))) (dup (pair 1 2))",
                   "(dup (pair 1 2))", "(dup (pair 1 2))", None)

    def test_at_depth_1(self):
        self.shows_after("(macro m ((m e ...) (pair (+ e ...) (* e ...))))", "(m 1 (+ 1 1))", None, None, None, None, "(pair 3 2)")
        self.shows_after("(macro m ((m e ...) (fn () ((0 e ...) (- e ...)))))", "(m 1 (+ 1 1))")
        self.shows_after("(macro m ((m (e ...) ...) (fn () ((0 (1 e ...) ...) (0 (2 e ...) ...)))))", "(m (1 2) () (+ (m)))")


class Introduced(ShowCase):
    """Names, integers and lists of the template must be those that this use introduced."""

    KEEP = "(macro keep ((k (x)) (fn () x)) ((k e) (let t e t))) (macro m ((m e) (pair (keep e) 2)))"

    def test_a_list_that_no_use_introduced(self):
        # What stands in place of the list (keep e) is (keep (7)) after two steps, but that one of the source.
        self.shows_after(self.KEEP, "(m (keep (7)))", None, None)
        self.shows_after("(macro m ((m e) (+ e (head (pair 1 2)))))", "(m (+ 2 3))", "(m 5)", None, None, "6")

    def test_a_list_that_another_use_introduced(self):
        self.shows_after(self.KEEP + "(macro n ((n) (m (keep (7)))))", "(n)", None, None)
        self.shows_after(self.KEEP + "(macro n ((n e) (m e)))", "(n (keep (7)))", None, None)


def marked(tree, uses):
    """A tree of which each part is introduced by a use, those that are told in turn."""
    use = uses.pop(0)
    if tree[0] == "list":
        return Group([marked(item, uses) for item in tree[1]], (), use)
    return Integer(tree[1], use) if tree[0] == "int" else Name(tree[1], (), use, NO_INDEX)


class Undone(unittest.TestCase):
    """The use with the number 3, put back in place of trees that runs hardly ever lead to."""

    def put_back(self, rule, text, uses, use="(m 1 2)", introduced=(-1,) * 9):
        rule = read_rule(grow(read(rule)[0]))
        undoing = Undoing(3, Use(marked(read(use)[0], list(introduced)), Macro([rule], True), rule))
        return undoing.put_back(marked(read(text)[0], list(uses)))

    def gives(self, expected, *told, **more):
        self.assertEqual(write(plain(self.put_back(*told, **more))), expected)

    def gives_nothing(self, *told, **more):
        with self.assertRaises(SugarError):
            self.put_back(*told, **more)

    def test_a_name_an_integer_and_a_list(self):
        rule = "((m a b) (t 5 a (b)))"
        self.gives("(m 1 (2))", rule, "(t 5 1 ((2)))", [3, 3, 3, -1, 3, -1, -1])
        # What the variables stand for may be introduced by any use.
        self.gives("(m 1 (2))", rule, "(t 5 1 ((2)))", [3, 3, 3, 3, 3, 4, 2])
        for place in (0, 1, 2, 4):
            for other in (-1, 0, 2, 4):
                uses = [3, 3, 3, -1, 3, -1, -1]
                uses[place] = other
                self.gives_nothing(rule, "(t 5 1 ((2)))", uses)

    def test_other_texts_integers_and_lists(self):
        rule = "((m a b) (t 5 a (b)))"
        for text in ("(u 5 1 (2))", "(t 6 1 (2))", "(5 5 1 (2))", "(t t 1 (2))", "(t 5 1 2)", "(t 5 1 t)", "(t 5 1 ())",
                     "(t 5 1 (2 3))", "(t 5 1)", "(t 5 1 (2) 3)", "(t (5) 1 (2))", "((t) 5 1 (2))", "5", "t", "()"):
            self.gives_nothing(rule, text, [3] * 9)

    def test_numbers_of_items(self):
        rule = "((m a b ...) (t 1 b ... a 2))"
        for text, expected in (("(t 1 5 2)", "(m 5)"), ("(t 1 6 5 2)", "(m 5 6)"), ("(t 1 6 7 5 2)", "(m 5 6 7)")):
            self.gives(expected, rule, text, [3] * 9)
        for text in ("(t 1 5)", "(t 1)", "(t)", "()", "(t 1 2)", "(t 1 5 2 5)", "(t 2 5 2)"):
            self.gives_nothing(rule, text, [3] * 9)

    def test_equal_trees_are_introduced_by_the_same_uses(self):
        rule = "((m a) (a a))"
        self.gives("(m (t 5))", rule, "((t 5) (t 5))", [3, -1, 2, 3, -1, 2, 3])
        for place in (4, 5, 6):
            uses = [3, -1, 2, 3, -1, 2, 3]
            uses[place] = 4
            self.gives_nothing(rule, "((t 5) (t 5))", uses)
        for text in ("(t u)", "(5 6)", "((t) (t t))", "(() (()))", "((t 5) (t 6))", "((t 5) (5 t))", "(t 5)", "(5 t)", "(() t)"):
            self.gives_nothing(rule, text, [3] * 9)

    def test_what_the_written_use_is_introduced_by(self):
        result = self.put_back("((m (a 7) b ...) (a b ...))", "(5 6 (8))", [3, -1, -1, 2, 4], use="(k (1 7) 2 3)",
                               introduced=[0, 1, 2, 4, 5, 6, 7])
        self.assertEqual(write(plain(result)), "(k (5 7) 6 (8))")
        head, items, six, eight = result.parts()
        self.assertEqual([part.use for part in (result, head, items, *items.parts(), six, eight, *eight.parts())],
                         [0, 1, 2, -1, 5, -1, 2, 4])

    def test_more_and_fewer_repetitions_than_the_use_had(self):
        rule = "((m (a 7) ...) (a ...))"
        for text, expected in (("()", "(m)"), ("(1)", "(m (1 7))"), ("(1 2 3)", "(m (1 7) (2 7) (3 7))")):
            result = self.put_back(rule, text, [3, -1, -1, -1], use="(m (1 7) (2 7))", introduced=[0, 1, 4, 5, 6, 4, 5, 6])
            self.assertEqual(write(plain(result)), expected)
            # A further list and integer are introduced as the list of the use is.
            self.assertEqual([part.use for part in result.parts()[1:]], [4, 4, 0][:len(result.parts()) - 1])
            self.assertEqual([part.parts()[1].use for part in result.parts()[1:]], [6, 6, 0][:len(result.parts()) - 1])

    def test_unequal_repetitions(self):
        rule = "((m (a b) ...) ((a ...) (b ...)))"
        self.gives("(m (1 3) (2 4))", rule, "((1 2) (3 4))", [3] * 9, use="(m)")
        self.gives_nothing(rule, "((1 2) (3))", [3] * 9, use="(m)")
        self.gives_nothing(rule, "((1) (2 3))", [3] * 9, use="(m)")


if __name__ == "__main__":
    unittest.main()
