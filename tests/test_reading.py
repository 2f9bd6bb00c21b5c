import unittest

from sugartrue.errors import TextError
from sugartrue.reading import read, write, write_program


def name(text, index):
    return ("name", text, index)


def names(count):
    return [name("a", index) for index in range(count)]


class Reading(unittest.TestCase):
    def fails_at(self, text, at):
        with self.subTest(text=text):
            with self.assertRaises(TextError) as caught:
                read(text)
            self.assertEqual(caught.exception.at, at)

    def reads(self, text, program):
        with self.subTest(text=text):
            self.assertEqual(read(text), program)


class Tokens(Reading):
    """Point 2."""

    def test_integers(self):
        for text, n in [("0", 0), ("1", 1), ("9", 9), ("10", 10), ("-1", -1), ("-9", -9),
                        ("-10", -10), ("123456789", 123456789), ("-123456789", -123456789),
                        ("999999999", 999999999), ("-999999999", -999999999),
                        ("100000000", 100000000), ("-100000000", -100000000)]:
            self.reads(text, [("int", n)])
        self.assertIs(type(read("5")[0][1]), int)

    def test_runs_near_to_integers(self):
        for text in ("-0", "00", "01", "-01", "1234567890", "-1234567890", "1000000000",
                     "0123456789", "+1", "--1", "1-", "1a", "-1a", "1.", "1_0", "1+1", "-00", "-10-"):
            self.fails_at(text, 0)

    def test_names(self):
        for text in ("a", "z", "m", "a0", "a9", "z19", "fn", "macro", "abc123def",
                     "a" * 20, "b" + "7" * 19):
            self.reads(text, [name(text, 0)])

    def test_runs_near_to_names(self):
        for text in ("a" * 21, "b" + "7" * 20, "A", "aB", "a-b", "a_b", "_a", "a_", "a.", ".a",
                     "a!", "!", "a'", '"a"', "a,b", "[a]", "{", "&", "~", "#a", "a;", "/", "@", "`"):
            self.fails_at(text, 0)

    def test_special_names(self):
        for text in ("+", "-", "*", "<", "=", "_", "..."):
            self.reads(text, [name(text, 0)])
            self.reads(f"({text})", [("list", [name(text, 0)])])

    def test_runs_near_to_special_names(self):
        for text in (".", "..", "....", ".....", "++", "--", "**", "<<", "==", "__", "<=", "=<", ">",
                     "-a", "+a", "a+", "*1", "_1", "...a", "a...", "+-", "_..."):
            self.fails_at(text, 0)

    def test_spaces_and_newlines(self):
        program = [("list", [name("a", 0), ("int", 1)]), name("b", 1)]
        for text in ("(a 1) b", "(a 1)b", "  ( a  1 )  b  ", "\n(a\n1)\n\nb\n", " \n (\n a \n1)b\n "):
            self.reads(text, program)

    def test_texts_without_a_token(self):
        for text in ("", " ", "\n", "  \n \n"):
            self.reads(text, [])

    def test_tokens_beside_parentheses(self):
        self.reads("a(b)c", [name("a", 0), ("list", [name("b", 1)]), name("c", 2)])
        self.reads("1(2)-3", [("int", 1), ("list", [("int", 2)]), ("int", -3)])
        self.reads("(+(-)...)", [("list", [name("+", 0), ("list", [name("-", 1)]), name("...", 2)])])
        self.reads("()()", [("list", []), ("list", [])])

    def test_a_long_text_is_no_fault(self):
        self.reads(" " * 4000 + "a", [name("a", 0)])


class Trees(Reading):
    """Point 3."""

    def test_the_example(self):
        self.reads("(a -1 b)", [("list", [name("a", 0), ("int", -1), name("b", 1)])])

    def test_names_are_counted_through_the_whole_text(self):
        self.reads("(a (b 5) a)\nc () (_ (...) a)", [
            ("list", [name("a", 0), ("list", [name("b", 1), ("int", 5)]), name("a", 2)]),
            name("c", 3),
            ("list", []),
            ("list", [name("_", 4), ("list", [name("...", 5)]), name("a", 6)])])

    def test_the_kinds_of_trees(self):
        tree = read("(a 1 ())")[0]
        self.assertIs(type(tree), tuple)
        self.assertIs(type(tree[1]), list)
        self.assertEqual([type(item) for item in tree[1]], [tuple, tuple, tuple])
        self.assertIs(type(tree[1][2][1]), list)
        self.assertIs(type(read("a b")), list)

    def test_lists_nested_30_deep(self):
        tree = ("list", [])
        for _ in range(29):
            tree = ("list", [tree])
        self.reads("(" * 30 + ")" * 30, [tree])
        self.reads(("(" * 30 + ")" * 30) * 2, [tree, tree])
        self.reads("(" * 29 + "()" * 3 + ")" * 29 + "()", read("(" * 29 + "() () ()" + ")" * 29 + " ()"))


class Faults(Reading):
    """Point 4."""

    def test_a_run_that_is_not_a_token(self):
        self.fails_at("(a 01)", 3)
        self.fails_at("A", 0)
        self.fails_at("a b cD e", 4)
        self.fails_at("\n\n(a)..", 5)
        self.fails_at("(abc (-0))", 6)

    def test_a_closing_parenthesis_alone(self):
        self.fails_at(")", 0)
        self.fails_at("(a))", 3)
        self.fails_at(" ()\n) (", 4)
        self.fails_at("a)", 1)

    def test_a_list_that_is_too_deep(self):
        self.fails_at("(" * 31 + ")" * 31, 30)
        self.fails_at("(" * 31, 30)
        self.fails_at("(" * 40, 30)
        self.fails_at("(a " * 30 + "b ()" + ")" * 30, 92)
        self.fails_at("(" * 29 + "()(())" + ")" * 29, 32)

    def test_a_list_that_is_never_closed(self):
        self.fails_at("(", 0)
        self.fails_at("a (b", 2)
        self.fails_at("(a (b) c", 0)
        self.fails_at("() (a) ( ()", 7)

    def test_of_several_lists_that_are_never_closed_it_is_the_last(self):
        self.fails_at("((", 1)
        self.fails_at("(a (b (c) (d)", 3)
        self.fails_at("(a (b) (c (d) e", 7)
        self.fails_at("(" * 30, 29)

    def test_the_first_from_left_to_right(self):
        self.fails_at("A )", 0)
        self.fails_at(") A", 0)
        self.fails_at("a) B", 1)
        self.fails_at("B a)", 0)
        self.fails_at("B" + "(" * 31, 0)
        self.fails_at("(" * 31 + "B", 30)
        self.fails_at("(" * 30 + "B(", 30)
        self.fails_at(")" + "(" * 31, 0)
        self.fails_at("(" * 31 + ")" * 32, 30)
        self.fails_at("01 A", 0)
        self.fails_at("A 01", 0)

    def test_an_open_list_comes_behind_all_other_faults(self):
        self.fails_at("(a 01", 3)
        self.fails_at("( ( a!", 4)
        self.fails_at("(()))(", 4)
        self.fails_at("()) (", 2)
        self.fails_at("(" * 31, 30)


class Writing(Reading):
    """Point 5."""

    def test_trees(self):
        for text in ("a", "0", "-12", "...", "()", "(a)", "(a b)", "(())", "(() ())", "(a (b -1 ()) (+ _) c)",
                     "(" * 30 + ")" * 30, "(" * 30 + "a b" + ")" * 30):
            with self.subTest(text=text):
                self.assertEqual(write(read(text)[0]), text)

    def test_programs(self):
        self.assertEqual(write_program([]), "")
        self.assertEqual(write_program(read("a")), "a\n")
        self.assertEqual(write_program(read(" (a\n(b)1 )c()")), "(a (b) 1)\nc\n()\n")

    def test_the_index_of_a_name_is_not_written(self):
        self.assertEqual(write(("list", [name("b", 7), name("b", 0), ("int", 3)])), "(b b 3)")

    def test_trees_that_are_deeper_than_a_text_can_be(self):
        tree = ("int", 1)
        for _ in range(45):
            tree = ("list", [tree])
        self.assertEqual(write(tree), "(" * 45 + "1" + ")" * 45)

    def test_reading_the_written_form_gives_the_same_trees(self):
        for text in ("", "a(b(c)1)()-5", "(macro m ((m x ...) (+ x ...)))\n\n (m 1 2)", "(" * 30 + "x" + ")" * 30):
            with self.subTest(text=text):
                self.assertEqual(read(write_program(read(text))), read(text))

    def test_reading_the_written_form_counts_the_names_anew(self):
        self.assertEqual(read(write_program([name("a", 9), ("list", [name("a", 4), name("a", 4)])])),
                         [name("a", 0), ("list", names(3)[1:])])


if __name__ == "__main__":
    unittest.main()
