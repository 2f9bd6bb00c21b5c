import re
import unittest

from build import without_origins
from sugartrue.apart import expand_apart
from sugartrue.errors import FormError, LimitError, MatchError, ScopeError
from sugartrue.expanding import expand
from sugartrue.naming import classes, rename
from sugartrue.reading import read, write_program
from sugartrue.terms import alike
from support import lists_in, names_in

PRIMITIVES = ("+", "-", "*", "<", "=", "pair", "head", "tail", "none")
NEW_TEXTS = ("fresh", "q7", "abcdefghij0123456789")


def without_labels(text):
    return re.sub(":[a-z]+", "", text)


def told_classes(text):
    """The classes that a text tells: names of one class have the same label behind a colon."""
    found = {}
    words = [word for word in text.replace("(", " ").replace(")", " ").split() if not re.fullmatch("-?[0-9]+", word)]
    for index, word in enumerate(words):
        if ":" in word:
            found.setdefault(word.split(":")[1], []).append(index)
    return list(found.values())


class Case(unittest.TestCase):
    def tells(self, text):
        """The classes of a program are those that the labels in its text tell, and can be renamed."""
        with self.subTest(text=text):
            program = read(without_labels(text))
            found = classes(program)
            self.assertEqual(found, told_classes(text))
            self.assertEqual(found, sorted(found))
            self.assertEqual([sorted(set(indexes)) for indexes in found], found)
            self.can_be_renamed(program, found)

    def can_be_renamed(self, program, found):
        """Point 24."""
        term = expand(program)
        for text in NEW_TEXTS:
            self.assertNotIn(text, [name for _, name, _ in names_in(program)])
            for indexes in found:
                renamed = rename(program, indexes, text)
                self.assertEqual([index for _, name, index in names_in(renamed) if name == text], indexes)
                self.assertIs(alike(expand(renamed), term), True)
                self.assertEqual(expand_apart(renamed), without_origins(term))
                self.assertEqual(classes(renamed), found)
        # All of them at once, each with a text of its own.
        for at, indexes in enumerate(found):
            program = rename(program, indexes, f"z{at}z")
        self.assertIs(alike(expand(program), term), True)
        self.assertEqual(classes(program), found)


class Bindings(Case):
    """Point 23: each kind of binding, with no reference, one, and several."""

    def test_the_example(self):
        text = "(macro twice ((m e) (let t e (+ t t)))) (let t 5 (twice t))"
        self.assertEqual(classes(read(text)), [[1, 12], [3, 6], [5, 8, 9], [11, 13]])
        self.tells("(macro twice:a ((m e:b) (let t:c e:b (+ t:c t:c)))) (let t:d 5 (twice:a t:d))")

    def test_no_name(self):
        self.tells("5")
        self.tells("(1 (2) -3)")

    def test_a_definition(self):
        self.tells("(macro m:a ((m) 1)) 5")
        self.tells("(macro m:a ((m) 1)) (m:a)")
        self.tells("(macro m:a ((m) 1)) (+ (m:a) (m:a) ((fn () (m:a))))")
        self.tells("(macro m:a ((m) 1)) (macro k:b ((k) (m:a))) (k:b)")
        self.tells("(macro m:a ((m) 1)) (macro m:b ((m) (m:b 1)) ((m 1) 2)) (m:b)")

    def test_a_definition_that_uses_itself(self):
        self.tells("(macro m:a ((m) 0) ((m x:b y:c ...) (pair x:b (m:a y:c ...)))) (m:a 1 2)")
        # A template that is not used refers to nothing.
        self.tells("(macro m:a ((m) 0) ((m x:b y:c ...) (pair x:b (m y:c ...)))) (m:a)")

    def test_a_parameter(self):
        self.tells("(fn () 1)")
        self.tells("(fn (p:a) 1)")
        self.tells("(fn (p:a) p:a)")
        self.tells("(fn (p:a q:b) (q:b p:a p:a (p:a q:b)))")

    def test_a_let(self):
        self.tells("(let p:a 1 2)")
        self.tells("(let p:a 1 p:a)")
        self.tells("(let p:a 1 (let q:b p:a (p:a q:b (p:a))))")

    def test_a_rec(self):
        self.tells("(rec f:a () 1)")
        self.tells("(rec f:a (p:b) 1)")
        self.tells("(rec f:a (p:b q:c) p:b)")
        self.tells("(rec f:a (p:b) f:a)")
        self.tells("(rec f:a (p:b q:c) (f:a (f:a q:c) p:b q:c))")

    def test_a_with(self):
        self.tells("(with m:a (((m) 1)) 2)")
        self.tells("(with m:a (((m) 1)) (m:a))")
        self.tells("(with m:a (((m) (m:a 1)) ((k x:b) x:b)) (+ (m:a) (m:a 2)))")

    def test_a_binding_that_hides_another_one(self):
        self.tells("(let x:a 1 (pair (let x:b x:a x:b) x:a))")
        self.tells("(fn (x:a) (pair x:a (fn (x:b) (pair x:b (rec x:c () x:c)))))")
        self.tells("(let x:a 1 (let x:b 2 (let x:c 3 x:c)))")
        self.tells("(let x:a 1 (with x:b (((x) (x:b 1)) ((x x:c) x:c)) (let y:d (x:b) (let x:e 3 (x:e y:d)))))")
        self.tells("(macro m:a ((m) 1)) (pair (m:a) (with m:b (((m) 2)) (m:b)))")

    def test_names_called_like_forms_and_primitives(self):
        for text in ("fn", "let", "rec", "if", "with", *PRIMITIVES):
            self.tells(f"(let {text}:a 5 ({text}:a ({text}:a)))")
            self.tells(f"(fn ({text}:a) 5)")
            self.tells(f"(rec {text}:a () {text}:a)")
            self.tells(f"(with {text}:a (((m e:b) e:b)) ({text}:a 5))")
            self.tells(f"(macro {text}:a ((m e:b) e:b)) ({text}:a 5)")
            self.tells(f"(macro m:a ((m {text}:b) (0 {text}:b))) (m:a 1)")
        for text in PRIMITIVES:
            self.tells(text)
            self.tells(f"({text} ({text}) {text})")
            self.tells(f"(pair {text} (let {text}:a {text} (0 {text}:a)))")
        self.tells("(if 1 (fn (a:a) 1) (let b:b 1 (rec c:c () (with d:d (((m) 2)) 3))))")
        self.tells("(macro m:a ((m if:b) (if:b 1 2 3))) (m:a if)")


class Copies(Case):
    """Point 23: names of which an expansion makes copies."""

    def test_names_that_are_fixed_through_one_copy_only(self):
        # One copy of the last name is a reference to the first +, the other one is a primitive.
        self.tells("(macro m:a ((m n:b e:c) (pair (let n:b 1 e:c) e:c))) (m:a + +)")
        self.tells("(macro m:a ((m n:b e:c) (pair (let n:b 1 e:c) e:c))) (let x:d 2 (m:a x:d x:d))")
        self.tells("(macro m:a ((m n:b e:c) (pair (fn (n:b) e:c) e:c))) (m:a head (0 head))")

    def test_names_that_are_fixed_through_others(self):
        # The first + is fixed by the third one, and the second one by the first one.
        self.tells("(macro m:a ((m n:b e:c f:d) (pair (let n:b 1 (pair e:c f:d)) f:d))) (m:a + + +)")
        self.tells("(macro m:a ((m n:b e:c f:d) (pair (let n:b 1 (pair e:c f:d)) (let n:b 2 f:d)))) (m:a +:e +:e +:e)")
        self.tells("(macro m:a ((m k:b e:c) (with k:b (((q) 1)) (pair (k:b) e:c)))) (m:a head:d (head:d))")

    def test_a_name_of_a_template_that_refers_to_other_bindings_in_each_use(self):
        self.tells("(macro one:a ((k a:b b:c e:d) (let a:b 5 e:d))) (macro two:e ((k a:f b:g e:h) (let b:g 5 e:h)))"
                   " (macro m:i ((m c:j) (c:j t:k t:k t:k))) (pair (m:i one:a) (m:i two:e))")
        # With one of these uses only one of the bindings is made.
        self.tells("(macro one:a ((k a:b b:c e:d) (let a:b 5 e:d)))"
                   " (macro m:i ((m c:j) (c:j t:k t t:k))) (m:i one:a)")
        self.tells("(macro m:a ((m e:b) (let t:c e:b (+ t:c t:c)))) (pair (m:a 1) (m:a (m:a 2)))")

    def test_a_name_of_a_template_that_is_fixed_in_one_use(self):
        self.tells("(macro one:a ((k a:b e:c) (let a:b 5 e:c))) (macro two:d ((k a:e e:f) e:f))"
                   " (macro m:g ((m c:h) (c:h head head))) (pair (m:g one:a) (m:g two:d))")
        self.tells("(macro one:a ((k a:b e:c) (let a:b 5 e:c)))"
                   " (macro m:g ((m c:h) (c:h head:i head:i))) (pair (m:g one:a) (head (m:g one:a)))")

    def test_a_name_of_a_use_that_stands_several_times_in_the_result(self):
        self.tells("(macro m:a ((m e:b) (pair e:b (fn (t:c) (e:b e:b))))) (let x:d 1 (m:a x:d))")
        self.tells("(macro m:a ((m n:b e:c) (pair (fn (n:b) e:c) (let n:b 1 e:c)))) (m:a x:d x:d)")
        # The same name is bound by the macro in one place and refers to an outer one in the other.
        self.tells("(macro m:a ((m n:b e:c) (pair (let n:b 1 e:c) e:c))) (let x:d 2 (m:a x:d (+ x:d x:d)))")

    def test_a_name_of_a_use_that_never_stands_in_the_result(self):
        self.tells("(macro m:a ((m e:b) 1)) (let x:c 1 (m:a x))")
        self.tells("(macro m:a ((m e:b f:c) f:c)) (let x:d 1 (m:a (x + nowhere (fn (y) y)) x:d))")
        self.tells("(macro m:a ((m _ f:c) f:c)) (let x:d 1 (m:a x x:d))")

    def test_names_of_a_rule_in_a_template(self):
        self.tells("(macro mk:a ((m e:b) (with k:c (((k x:d) (pair x:d e:b))) (k:c 1)))) (mk:a 2)")
        self.tells("(macro mk:a ((m e:b) (with k:c (((k x:d) (pair x:d e:b t)) ((k) 7)) (k:c)))) (mk:a 2)")
        self.tells("(macro mk:a ((m e:b) (let t:c e:b (with k:d (((t y:e) (0 t:c y:e))) (k:d t:c))))) (mk:a 2)")
        # No use makes a binding of what stands in the template.
        self.tells("(macro mk:a ((m e:b) (with k (((k x) (pair x e:b))) (k 1)))) 5")


class PatternVariables(Case):
    """Point 23: pattern variables."""

    def test_in_the_pattern_and_the_template(self):
        self.tells("(macro m:a ((m x:b y:c) (0 y:c x:b y:c))) (m:a 1 2)")
        self.tells("(macro m:a ((m x:b (y:c 0 (z:d))) (z:d (x:b)))) (m:a 1 (2 0 (3)))")
        self.tells("(macro m:a ((m (x:b y:c ...) ...) (0 (x:b y:c ...) ...))) (m:a (+ 2) (-))")

    def test_of_several_rules(self):
        self.tells("(macro m:a ((m x:b) x:b) ((m x:c x2:d) (pair x2:d x:c))) (pair (m:a 1) (m:a 1 2))")
        self.tells("(with m:a (((m x:b) x:b) ((m x:c y:d) (pair y:d x:c))) (pair (m:a 1) (m:a 1 2)))")

    def test_of_a_rule_that_is_never_used(self):
        self.tells("(macro m:a ((m x:b) x:b) ((m x:c y:d) (pair y:d x:c e z))) (m:a 1)")
        self.tells("(macro m:a ((m x:b) (let y z (x:b x:b)))) 1")
        self.tells("(with m:a (((m x:b ...) (let y z (x:b ...)))) 1)")

    def test_of_a_rule_that_is_never_checked(self):
        self.tells("(macro m:a ((m e:b) 1)) (m:a (with k (((k x) (x x x))) (k 1)))")

    def test_that_do_not_occur_in_the_template(self):
        self.tells("(macro m:a ((m x:b (y:c ...)) 1)) (m:a 1 (2))")
        self.tells("(macro m:a ((m x:b) y)) 5")

    def test_what_is_no_pattern_variable(self):
        self.tells("(macro m:a ((m _ x:b ...) (+ x:b ...))) (m:a 1 2)")
        self.tells("(macro m:a ((x x:b) x:b)) (m:a 1)")
        self.tells("(macro m:a ((_ x:b) x:b)) (m:a 1)")
        self.tells("(macro m:a ((m m:b) m:b)) (m:a 1)")
        # The first item of a pattern is no variable, so the name in the template is another one.
        self.tells("(let x:a 5 (with m:b (((x) x:a)) (m:b)))")

    def test_the_name_macro(self):
        self.tells("(macro m:a ((macro macro:b) macro:b)) (let macro:c 5 (m:a macro:c))")
        self.tells("(macro macro:a ((macro) 5)) (macro:a)")
        self.tells("(macro macro:a ((macro) 5)) (macro k:b ((k) 6)) (pair (k:b) (macro:a))")
        self.tells("(fn (macro:a) (macro:a))")

    def test_that_a_use_gives_to_a_rule(self):
        self.tells("(macro mk:a ((m v:b e:c) (with k:d (((k v:b) e:c)) (k:d 1)))) (mk:a x:e x:e)")
        self.tells("(macro def:a ((m k:b p:c t:d e:e) (with k:b ((p:c t:d)) e:e)))"
                   " (let t:f 1 (def:a q:g (q e:h) (let t:i e:h (pair t:i e:h)) (q:g t:f)))")
        self.tells("(macro mk:a ((m d:b) (with k:c (((k x:d d:b) (0 (x:d) d:b))) (k:c 1 2)))) (mk:a ...)")

    def test_a_pattern_variable_in_one_copy_and_a_name_of_an_item_in_another(self):
        self.tells("(macro mk:a ((m v:b e:c) (with k:d (((k v:b) e:c)) (pair (k:d 1) (let v:b 2 e:c))))) (mk:a x:e x:e)")
        # The last name is a primitive in one copy, so the pattern variable cannot be renamed.
        self.tells("(macro mk:a ((m v:b e:c) (with k:d (((k v:b) e:c)) (pair (k:d 1) e:c)))) (mk:a + +)")
        # A name that is bound nowhere but in the rule that a macro makes.
        self.tells("(macro mk:a ((m v:b e:c) (with k:d (((k v:b w:e) (v:b e:c w:e))) (k:d + 1)))) (let x:f 3 (mk:a y:g x:f))")

    def test_a_pattern_variable_of_a_rule_of_a_rule(self):
        self.tells("(macro a:a ((a k:b) (with b:c (((b l:d x:e) (with l:d (((l:d k:b) (0 k:b x:e))) (l:d 5)))) (b:c z:f k:b))))"
                   " (let x:g 4 (a:a x:g))")


class NoClass(Case):
    """Point 23: occurrences that belong to no class."""

    def test_names_that_are_never_looked_up(self):
        self.tells("(macro m:a ((m x:b) (nowhere (x:b)))) 5")
        self.tells("(with m:a (((m x:b) (m nowhere x:b))) 5)")
        self.tells("(macro m:a ((m _) 5)) (m:a (let x y (+ x x)))")
        self.tells("(macro m:a ((m (_ x:b _)) x:b)) (m:a (let 5 macro))")

    def test_classes_ascend(self):
        found = classes(read("(fn (c b a) (let d (a b c) (rec b (a) (b a d c))))"))
        self.assertEqual(found, [[1, 8, 15], [2, 7], [3, 6], [5, 14], [10, 12], [11, 13]])

    def test_errors(self):
        for kind, text in ((FormError, ""), (FormError, "5 5"), (FormError, "(fn (a a) 1)"), (FormError, "(macro m ((m x x) 1)) 5"),
                           (FormError, "if"), (MatchError, "(macro m ((m 1) 1)) (m 2)"), (ScopeError, "x"), (ScopeError, "(let x x 1)"),
                           (MatchError, "(macro m ((m (a ...) (b ...)) (0 (a b) ...))) (m (1) ())"),
                           (LimitError, "(macro m ((m) (m))) (m)"), (LimitError, "(macro f ((m) (+" + " 1" * 599 + "))) (f)")):
            with self.subTest(text=text):
                with self.assertRaises(kind) as caught:
                    classes(read(text))
                self.assertIs(type(caught.exception), kind)


class Rename(unittest.TestCase):
    """What the interface says of rename."""

    def becomes(self, text, indexes, new, expected):
        program = read(text)
        renamed = rename(program, indexes, new)
        self.assertEqual(write_program(renamed), expected)
        self.assertEqual(program, read(text))
        self.assertEqual([index for _, _, index in names_in(renamed)], [index for _, _, index in names_in(program)])

    def test_some_occurrences_and_not_the_others(self):
        self.becomes("(let a 1 (a a))", [1, 3], "b", "(let b 1 (a b))\n")
        self.becomes("(let a 1 (a a))", [2], "b", "(let a 1 (b a))\n")
        self.becomes("(let a 1 (a a))", [3, 0, 2], "b", "(b a 1 (b b))\n")
        self.becomes("a", [0], "...", "...\n")

    def test_no_index(self):
        self.becomes("(macro m ((m x) (x))) (m 1)", [], "b", "(macro m ((m x) (x)))\n(m 1)\n")
        self.becomes("", [], "b", "")
        self.becomes("(1 (2) ())", [], "b", "(1 (2) ())\n")

    def test_an_index_twice(self):
        self.becomes("(a b)", [1, 1], "c", "(a c)\n")

    def test_in_all_trees_and_lists(self):
        self.becomes("(macro m ((m (x) ...) (0 (x ...)))) () 5 (m ((1 m)))", [1, 3, 5, 7, 8], "q",
                     "(macro q ((m (q) ...) (0 (q ...))))\n()\n5\n(q ((1 q)))\n")
        self.becomes("(" * 30 + "a b" + ")" * 30, [1], "c", "(" * 30 + "a c" + ")" * 30 + "\n")

    def test_indexes_are_those_in_the_program(self):
        renamed = rename(rename(read("(a b (c 5))"), [1], "x"), [1, 2], "y")
        self.assertEqual(renamed, [("list", [("name", "a", 0), ("name", "y", 1), ("list", [("name", "y", 2), ("int", 5)])])])

    def test_the_changed_program_is_new(self):
        program = read("(a (b) ())")
        held = [id(part) for part in lists_in(program)]
        for indexes in ([], [0, 1]):
            self.assertFalse([part for part in lists_in(rename(program, indexes, "c")) if id(part) in held])

    def test_a_text_that_is_in_use_changes_what_names_mean(self):
        program = read("(let a 1 (let b 2 (pair a b)))")
        self.assertEqual(classes(program), [[1, 5], [3, 6]])
        self.assertIs(alike(expand(rename(program, [3, 6], "c")), expand(program)), True)
        self.assertIs(alike(expand(rename(program, [3, 6], "a")), expand(program)), False)


if __name__ == "__main__":
    unittest.main()
