import unittest

from sugartrue.errors import SugarError, TextError
from sugartrue.expanding import expand
from sugartrue.machine import run
from sugartrue.play import report
from sugartrue.reading import read
from sugartrue.showing import show


def seven(steps):
    """An expression that becomes 7 after so many steps, at least two."""
    rounds, more = divmod(steps - 2, 3)
    return "(+ 0 " * more + f"((rec f (n) (if n (f (- n 1)) 7)) {rounds})" + ")" * more


class Report(unittest.TestCase):
    """Point 30 and what the interface says of report."""

    def reports(self, text, *lines):
        with self.subTest(text=text):
            self.assertEqual(report(text), list(lines))

    def ends(self, text, expected):
        """The last line is as expected, and the others are the states that are shown."""
        with self.subTest(text=text[:80]):
            *lines, last = report(text)
            self.assertEqual(last, expected)
            shown = [f"{at} {each.split(chr(10))[-2]}" for at, each in show(read(text), 200)]
            self.assertEqual(lines, shown)

    def test_the_example(self):
        self.reports("(+ 1 2)", "0 (+ 1 2)", "1 3", "value 3 after 1")

    def test_the_states_that_are_shown(self):
        self.reports("(macro either ((m a b) (let t a (if t t b))))\n(macro k ((k) 1))\n(either 0 (+ 1  (k)))",
                     "0 (either 0 (+ 1 (k)))", "2 (+ 1 (k))", "3 2", "value 2 after 3")
        self.reports("(let x 1 (let y 2 (y x)))", "0 (let x 1 (let y 2 (y x)))", "1 (let y 2 (y 1))", "2 (2 1)", "stuck after 2")

    def test_no_state_that_is_shown(self):
        self.reports("(macro m ((m _) 5)) (m 1)", "value 5 after 0")
        self.reports("(with m (((m) (+ 1 (1)))) (m))", "stuck after 0")

    def test_values(self):
        for text, value in (("5", "5"), ("-7", "-7"), ("0", "0"), ("+", "+"), ("none", "none"), ("head", "head"),
                            ("(fn (a) a)", "function"), ("(rec f () f)", "function")):
            self.reports(text, f"0 {text}", f"value {value} after 0")

    def test_pairs(self):
        self.ends("(pair 1 -2)", "value (1 . -2) after 1")
        self.ends("(pair (pair 1 none) (pair (fn (a) a) (pair + 4)))", "value ((1 . none) . (function . (+ . 4))) after 4")
        self.ends("(pair (pair (pair 1 2) 3) (rec f () f))", "value (((1 . 2) . 3) . function) after 3")
        self.ends("((rec f (n a) (if n (f (- n 1) (pair n a)) a)) 45 0)",
                  "value " + "".join(f"({at} . " for at in range(1, 46)) + "0" + ")" * 45 + " after 182")
        self.reports("(pair 1 2)", "0 (pair 1 2)", "1 (pair 1 2)", "value (1 . 2) after 1")

    def test_value_after_199_200_and_201_steps(self):
        for steps in (2, 3, 4, 5, 199, 200):
            self.ends(seven(steps), f"value 7 after {steps}")
        for steps in (201, 202, 203):
            self.ends(seven(steps), "going after 200")

    def test_stuck_after_199_200_and_201_steps(self):
        for steps in (2, 3, 4, 5, 198, 199):
            self.ends(f"(1 {seven(steps)})", f"stuck after {steps}")
        # The step that would be stuck is not tried.
        for steps in (200, 201, 202):
            self.ends(f"(1 {seven(steps)})", "going after 200")
        self.ends("(1)", "stuck after 0")

    def test_limit_after_199_200_and_201_steps(self):
        # The pairs are too large after 20 steps more.
        for steps in (2, 3, 4, 5, 178, 179):
            self.ends(f"((rec g (a) (g (pair a a))) {seven(steps)})", f"limit after {steps + 20}")
        for steps in (180, 181, 182):
            self.ends(f"((rec g (a) (g (pair a a))) {seven(steps)})", "going after 200")

    def test_going(self):
        self.ends("((rec f () (f)))", "going after 200")
        self.assertEqual(report("((rec f () (f)))"), [f"{at} ((rec f () (f)))" for at in range(201)] + ["going after 200"])
        self.assertEqual(report("(macro m ((m e) (let t e (t)))) (m (rec f () (f)))"),
                         ["0 (m (rec f () (f)))"] + [f"{at} ((rec f () (f)))" for at in range(2, 201)] + ["going after 200"])

    def test_text_errors(self):
        for text, at in (("(+ 01 2)", 3), (")", 0), ("(+ 1\n(+ 2", 5), ("(+ 1 2) A", 8), ("(" * 31 + ")" * 31, 30), ("a1 -0", 3),
                         ("(+ 1 " + chr(37) + ")", 5)):
            self.reports(text, f"error TextError {at}")
            with self.assertRaises(TextError) as caught:
                read(text)
            self.assertEqual(caught.exception.at, at)

    def test_other_errors(self):
        for kind, texts in (
                ("FormError", ("", "5 5", "()", "(fn (a a) 1)", "(let 1 2 3)", "if", "(macro m ((m x x) 1)) 5", "(if 1 2)")),
                ("MatchError", ("(macro m ((m 1) 1)) (m 2)", "(macro m ((m (a ...) (b ...)) (0 (a b) ...))) (m (1) ())")),
                ("ScopeError", ("x", "(let x x 1)", "(+ 1 (x))", "(macro m ((m) t)) (let t 1 (m))")),
                ("LimitError", ("(macro m ((m) (m))) (m)", "(macro f ((m) 1)) (+" + " (f)" * 201 + ")",
                                "(macro f ((m) (+" + " 1" * 599 + "))) (f)"))):
            for text in texts:
                self.reports(text, f"error {kind}")
                with self.assertRaises(SugarError) as caught:
                    expand(read(text))
                self.assertEqual(type(caught.exception).__name__, kind)

    def test_errors_of_a_run_are_no_errors_of_the_text(self):
        self.reports("(head 1)", "0 (head 1)", "stuck after 0")
        text = "(macro m2 ((m) (0" + " 1" * 90 + "))) (macro m ((m) (0" + " (m2)" * 40 + "))) (m)"
        self.assertEqual(run(expand(read(text)), 1)[1], "limit")
        self.reports(text, "0 (m)", "limit after 0")


if __name__ == "__main__":
    unittest.main()
