import unittest

from build import app, cond, fn, let, marked, num, pair, prim, rec, ref, without_origins
from sugartrue.terms import alike
from support import expanded

TERMS = (
    num(0), num(-5), prim("+"), prim("none"), ref(0), ref(7),
    fn([], num(1)), fn([0], ref(0)), fn([0, 1], ref(1)), rec(0, [], ref(0)), rec(0, [1, 2], app(ref(0), ref(2), ref(1))),
    let(0, num(1), ref(0)), cond(num(1), num(2), num(3)), app("+"), app("+", num(1)), app("+", num(1), num(2)),
    app(fn([0], ref(0)), num(1)), pair(num(1), num(2)), pair(num(1), pair(num(2), num(3))), app("pair", num(1), num(2)),
)


class Alike(unittest.TestCase):
    """Point 21: when two terms are alike."""

    def are(self, first, second):
        self.assertIs(alike(first, second), True)
        self.assertIs(alike(second, first), True)

    def are_not(self, first, second):
        self.assertIs(alike(first, second), False)
        self.assertIs(alike(second, first), False)

    def test_a_term_is_alike_to_itself_and_to_no_other_one(self):
        for at, first in enumerate(TERMS):
            for place, second in enumerate(TERMS):
                with self.subTest(first=first, second=second):
                    self.assertIs(alike(first, second), at == place)

    def test_other_origins(self):
        for term in TERMS:
            with self.subTest(term=term):
                self.are(term, marked(term))
                self.are(marked(term, 5), marked(term, 6))

    def test_other_numbers(self):
        self.are(fn([0], ref(0)), fn([5], ref(5)))
        self.are(fn([0, 1], app(ref(0), ref(1))), fn([1, 0], app(ref(1), ref(0))))
        self.are(rec(0, [1, 2], app(ref(0), ref(1), ref(2))), rec(2, [0, 1], app(ref(2), ref(0), ref(1))))
        self.are(let(0, num(1), ref(0)), let(3, num(1), ref(3)))
        self.are(let(0, num(1), fn([1], app(ref(0), ref(1)))), let(1, num(1), fn([0], app(ref(1), ref(0)))))
        self.are(marked(fn([0], fn([1], ref(0)))), marked(fn([1], fn([0], ref(1))), 9))

    def test_other_integers_primitives_and_kinds(self):
        self.are_not(num(1), num(2))
        self.are_not(num(1), num(-1))
        self.are_not(prim("+"), prim("-"))
        self.are_not(fn([0], num(1)), fn([0], num(2)))
        self.are_not(fn([], prim("head")), fn([], prim("tail")))
        for around in (lambda part: app("+", num(1), part), lambda part: app(part, num(1)), lambda part: let(0, part, num(1)),
                       lambda part: let(0, num(1), part), lambda part: cond(part, num(1), num(1)),
                       lambda part: cond(num(1), part, num(1)), lambda part: cond(num(1), num(1), part),
                       lambda part: fn([0], part), lambda part: rec(0, [], part), lambda part: pair(part, num(1)),
                       lambda part: pair(num(1), part)):
            self.are(around(num(3)), around(num(3)))
            self.are_not(around(num(3)), around(num(4)))
            self.are_not(around(num(3)), around(prim("+")))
            self.are_not(around(num(3)), around(app("+")))

    def test_the_number_of_arguments(self):
        self.are_not(app("+", num(1)), app("+", num(1), num(1)))
        self.are_not(app("+"), app("+", num(1)))
        self.are_not(app("+", num(1), num(2)), app("+", num(2), num(1)))
        self.are_not(app("+", app("+"), num(1)), app("+", app("+", num(1))))

    def test_functions_with_other_numbers_of_parameters(self):
        self.are_not(fn([], num(1)), fn([0], num(1)))
        self.are_not(fn([0], ref(0)), fn([0, 1], ref(0)))
        self.are_not(fn([0, 1], ref(1)), fn([0], ref(0)))
        self.are_not(rec(0, [], num(1)), rec(0, [1], num(1)))
        self.are_not(rec(0, [1], ref(1)), rec(0, [1, 2], ref(1)))
        self.are_not(fn([0], fn([1], ref(1))), fn([0, 1], ref(1)))
        # A rec without parameters binds as many variables as a fn with one.
        self.are_not(fn([0], ref(0)), rec(0, [], ref(0)))
        self.are_not(fn([0], num(1)), rec(0, [], num(1)))
        self.are_not(fn([0], num(1)), let(0, num(1), num(1)))

    def test_the_own_name_of_a_rec(self):
        self.are(rec(0, [1], ref(0)), rec(5, [6], ref(5)))
        self.are_not(rec(0, [1], ref(0)), rec(0, [1], ref(1)))
        self.are_not(rec(0, [1], ref(0)), rec(1, [0], ref(0)))
        self.are(rec(0, [1], ref(0)), rec(1, [0], ref(1)))
        self.are_not(rec(0, [], ref(0)), rec(1, [], ref(0)))

    def test_references_to_other_bindings(self):
        self.are_not(fn([0, 1], ref(0)), fn([0, 1], ref(1)))
        self.are_not(fn([0, 1], ref(0)), fn([1, 0], ref(0)))
        self.are(fn([0, 1], ref(0)), fn([1, 0], ref(1)))
        self.are_not(fn([0], fn([1], ref(0))), fn([0], fn([1], ref(1))))
        self.are_not(let(0, num(1), let(1, num(1), ref(0))), let(0, num(1), let(1, num(1), ref(1))))
        self.are_not(fn([0], let(1, num(1), app(ref(0), ref(1)))), fn([0], let(1, num(1), app(ref(1), ref(0)))))
        for others in ([1, 2], [1, 2, 3]):
            for first in range(3):
                for second in range(first):
                    self.are_not(fn([0], fn(others, ref(first))), fn([0], fn(others, ref(second))))
        # Both references refer to one binding here, and to two there.
        self.are_not(fn([0], fn([1], app(ref(0), ref(0)))), fn([0], fn([1], app(ref(0), ref(1)))))

    def test_the_value_of_a_let_is_not_inside_of_its_binding(self):
        self.are(fn([0], let(1, ref(0), ref(1))), fn([0], let(0, ref(0), ref(0))))
        self.are_not(fn([0], let(1, ref(0), ref(1))), fn([0], let(1, ref(0), ref(0))))
        self.are(let(0, ref(0), num(1)), let(1, ref(0), num(1)))
        self.are_not(let(0, ref(0), num(1)), let(1, ref(1), num(1)))

    def test_bindings_with_the_same_number_in_different_places(self):
        self.are(app("pair", fn([0], ref(0)), fn([0], ref(0))), app("pair", fn([0], ref(0)), fn([1], ref(1))))
        self.are(app("pair", fn([3], ref(3)), fn([3], ref(3))), app("pair", fn([1], ref(1)), fn([0], ref(0))))
        self.are(app("pair", let(0, num(1), ref(0)), rec(0, [1], app(ref(0), ref(1)))),
                 app("pair", let(1, num(1), ref(1)), rec(1, [0], app(ref(1), ref(0)))))
        self.are_not(app("pair", fn([0], ref(0)), fn([0], ref(0))), app("pair", fn([0], ref(0)), fn([1], ref(0))))

    def test_bindings_with_the_same_number_one_inside_of_the_other(self):
        self.are(fn([0], fn([0], ref(0))), fn([0], fn([1], ref(1))))
        self.are_not(fn([0], fn([0], ref(0))), fn([0], fn([1], ref(0))))
        self.are(let(0, num(1), let(0, ref(0), ref(0))), let(0, num(1), let(1, ref(0), ref(1))))
        self.are_not(let(0, num(1), let(0, ref(0), ref(0))), let(0, num(1), let(1, ref(0), ref(0))))
        self.are(rec(0, [1], rec(1, [0], app(ref(0), ref(1)))), rec(0, [1], rec(2, [3], app(ref(3), ref(2)))))
        self.are(fn([0], app("pair", fn([0], ref(0)), ref(0))), fn([0], app("pair", fn([1], ref(1)), ref(0))))
        self.are_not(fn([0], app("pair", fn([0], ref(0)), ref(0))), fn([0], app("pair", fn([1], ref(1)), ref(1))))
        self.are(fn([0, 1], fn([0], app(ref(0), ref(1)))), fn([4, 5], fn([6], app(ref(6), ref(5)))))
        # The inner binding of 0 hides the outer one in one term, and does not in the other.
        self.are_not(fn([0], fn([0], fn([1], ref(0)))), fn([0], fn([1], fn([2], ref(0)))))

    def test_variables_that_are_not_bound(self):
        self.are(ref(3), ref(3))
        self.are_not(ref(3), ref(4))
        self.are(app(ref(0), ref(1)), app(ref(0), ref(1)))
        self.are_not(app(ref(0), ref(1)), app(ref(1), ref(0)))
        self.are(fn([0], app(ref(0), ref(5))), fn([1], app(ref(1), ref(5))))
        self.are_not(fn([0], ref(5)), fn([0], ref(6)))
        # A variable is not bound outside of the form that binds it.
        self.are(app(fn([0], ref(0)), ref(0)), app(fn([1], ref(1)), ref(0)))
        self.are_not(app(fn([0], ref(0)), ref(0)), app(fn([1], ref(1)), ref(1)))

    def test_variables_that_are_bound_in_one_term_only(self):
        self.are_not(fn([0], ref(0)), fn([1], ref(0)))
        self.are_not(fn([0], ref(1)), fn([1], ref(1)))
        self.are_not(fn([0], ref(0)), fn([0], ref(1)))
        self.are_not(let(0, num(1), ref(0)), let(1, num(1), ref(0)))
        self.are_not(rec(0, [1], ref(1)), rec(0, [2], ref(1)))
        self.are_not(rec(0, [1], ref(0)), rec(2, [1], ref(0)))
        self.are_not(let(0, num(1), ref(7)), let(7, num(1), ref(7)))

    def test_pairs(self):
        self.are(pair(num(1), fn([0], ref(0))), pair(num(1), fn([4], ref(4))))
        self.are_not(pair(num(1), num(2)), app("pair", num(1), num(2)))
        self.are_not(pair(num(1), num(2)), pair(num(2), num(1)))
        self.are_not(pair(num(1), pair(num(2), num(3))), pair(pair(num(1), num(2)), num(3)))
        self.are_not(app("head", pair(num(1), num(2))), app("head", app("pair", num(1), num(2))))

    def test_expanded_programs(self):
        with_macros = expanded("(macro or ((m a b) (let t a (if t t b)))) (fn (t) (or 0 (or t 1)))")
        without = expanded("(fn (t) (let u 0 (if u u (let v t (if v v 1)))))")
        self.are(with_macros, without)
        self.are(with_macros, without_origins(with_macros))
        self.are_not(with_macros, expanded("(fn (t) (let u 0 (if u u (let v u (if v v 1)))))"))
        self.are(expanded("(0 (fn (a b) (a b)) (fn (c) c))"), expanded("(0 (fn (x y) (x y)) (fn (x) x))"))
        self.are_not(expanded("(fn (a b) (a b))"), expanded("(fn (b a) (a b))"))

    def test_large_terms(self):
        deep = num(1)
        for number in range(3000):
            deep = fn([number], app(deep, ref(number)))
        self.are(deep, marked_flat(deep))


def marked_flat(term):
    """The same term with other numbers, for a term that is too deep for recursion."""
    count = 0
    while term[0] == "fn":
        term = term[2][1]
        count += 1
    for number in range(count):
        term = fn([number + 7], app(term, ref(number + 7)))
    return term


if __name__ == "__main__":
    unittest.main()
