import unittest

from build import app, cond, fn, let, marked, num, pair, prim, rec, ref
from sugartrue.terms import put
from support import shape_of

ONE = ("int", 1, (3, (4,), 5))


class Put(unittest.TestCase):
    """Point 27."""

    def gives(self, term, values, expected):
        with self.subTest(term=term):
            self.assertEqual(put(term, values), expected)

    def test_references_are_replaced(self):
        self.gives(ref(0), {0: num(1)}, num(1))
        self.gives(app(ref(0), ref(0), ref(1)), {0: num(1)}, app(num(1), num(1), ref(1)))
        self.gives(fn([1], app(ref(0), ref(1))), {0: num(1)}, fn([1], app(num(1), ref(1))))
        self.gives(rec(1, [2], app(ref(0), ref(1), ref(2))), {0: num(1)}, rec(1, [2], app(num(1), ref(1), ref(2))))
        self.gives(let(1, ref(0), app(ref(0), ref(1))), {0: num(7)}, let(1, num(7), app(num(7), ref(1))))
        self.gives(cond(ref(0), ref(0), ref(0)), {0: num(1)}, cond(num(1), num(1), num(1)))
        self.gives(app(app(app(ref(0))), app(num(2), app("+", ref(0)))), {0: num(1)},
                   app(app(app(num(1))), app(num(2), app("+", num(1)))))

    def test_other_terms_stay(self):
        for term in (num(5), prim("+"), app("none"), fn([], num(1)), pair(num(1), prim("head")), ref(4)):
            self.gives(term, {0: num(1), 1: num(2)}, term)

    def test_every_kind_of_value_is_put(self):
        for value in (num(0), prim("tail"), fn([0], ref(0)), rec(0, [1], app(ref(0), ref(1))), pair(num(1), fn([], num(2)))):
            self.gives(app("pair", ref(5), fn([1], ref(5))), {5: value}, app("pair", value, fn([1], value)))
        # It may be a term that is no value, too.
        self.gives(app(ref(0)), {0: app("+", num(1), num(2))}, app(app("+", num(1), num(2))))

    def test_references_inside_of_another_binding_by_fn(self):
        values = {0: num(1)}
        for term in (fn([0], ref(0)), fn([1, 0], app(ref(0), ref(1))), fn([0, 1], ref(0)), fn([1], fn([0], ref(0))),
                     fn([0], fn([1], app(ref(0), ref(1)))), fn([0], let(1, ref(0), ref(0)))):
            self.gives(term, values, term)
        self.gives(app(fn([0], ref(0)), ref(0)), values, app(fn([0], ref(0)), num(1)))
        self.gives(app(ref(0), fn([0], ref(0)), ref(0)), values, app(num(1), fn([0], ref(0)), num(1)))

    def test_references_inside_of_another_binding_by_rec(self):
        values = {0: num(1)}
        for term in (rec(0, [1], ref(0)), rec(1, [0], ref(0)), rec(1, [2, 0], ref(0)), rec(0, [], app(ref(0)))):
            self.gives(term, values, term)
        self.gives(rec(1, [2], rec(0, [3], app(ref(0), ref(3)))), values, rec(1, [2], rec(0, [3], app(ref(0), ref(3)))))
        self.gives(rec(1, [2], app(rec(0, [3], ref(0)), ref(0))), values, rec(1, [2], app(rec(0, [3], ref(0)), num(1))))

    def test_references_inside_of_another_binding_by_let(self):
        values = {0: num(1)}
        self.gives(let(0, num(2), ref(0)), values, let(0, num(2), ref(0)))
        self.gives(let(0, ref(0), ref(0)), values, let(0, num(1), ref(0)))
        self.gives(let(0, app("+", ref(0), let(0, ref(0), ref(0))), fn([1], ref(0))), values,
                   let(0, app("+", num(1), let(0, num(1), ref(0))), fn([1], ref(0))))
        self.gives(let(1, ref(0), ref(0)), values, let(1, num(1), num(1)))

    def test_several_variables_at_once(self):
        values = {0: num(1), 1: prim("+"), 2: fn([0], ref(0))}
        self.gives(app(ref(1), ref(0), ref(2), ref(3)), values, app(prim("+"), num(1), fn([0], ref(0)), ref(3)))
        self.gives(fn([1], app(ref(1), ref(0), ref(2))), values, fn([1], app(ref(1), num(1), fn([0], ref(0)))))
        self.gives(let(0, app(ref(0), ref(1)), app(ref(0), ref(1))), values,
                   let(0, app(num(1), prim("+")), app(ref(0), prim("+"))))
        self.gives(rec(0, [1], app(ref(0), ref(1), ref(2))), values, rec(0, [1], app(ref(0), ref(1), fn([0], ref(0)))))

    def test_in_what_is_put_nothing_is_replaced(self):
        values = {0: fn([1], ref(1)), 1: fn([0], app(ref(0), ref(0)))}
        self.gives(app(ref(0), ref(1)), values, app(fn([1], ref(1)), fn([0], app(ref(0), ref(0)))))
        self.gives(fn([1], app(ref(0), ref(1))), values, fn([1], app(fn([1], ref(1)), ref(1))))

    def test_variables_that_do_not_occur_and_no_variables(self):
        term = app(fn([0], ref(0)), ref(1), let(2, num(1), ref(2)))
        self.gives(term, {}, term)
        self.gives(term, {3: num(1), 0: num(2), 2: num(4)}, term)

    def test_origins(self):
        def at(number):
            return (number, (number, 7), number + 1)

        body = let(2, ref(0), cond(ref(0), ref(1), rec(3, [], ref(0))))
        term = marked(app(ref(0), fn([1], ref(0)), body), 10)
        for value in (ONE, marked(fn([0], app(ref(0), num(2)))), marked(pair(num(1), prim("+")))):
            self.gives(term, {0: value}, ("app", value, [
                ("fn", [1], value, at(12)),
                ("let", 2, value, ("if", value, ("ref", 1, at(18)), ("rec", 3, [], value, at(19)), at(16)), at(14)),
            ], at(10)))
        self.gives(ref(0, at(1)), {0: ONE}, ONE)
        self.gives(ref(0, at(1)), {1: ONE}, ref(0, at(1)))

    def test_the_kind_of_the_result(self):
        result = put(app(fn([1], ref(0)), rec(2, [3], ref(3))), {0: num(1)})
        self.assertEqual([type(result), type(result[2]), type(result[1][1]), type(result[2][0][2])],
                         [tuple, list, list, list])

    def test_large_terms(self):
        deep = ref(0)
        for number in range(1, 3000):
            deep = fn([number], app(deep, ref(number)))
        result = put(deep, {0: num(5)})
        while result[0] == "fn":
            result = result[2][1]
        self.assertEqual(result, num(5))
        self.assertEqual(shape_of(put(app("+", *[ref(0)] * 5000), {0: num(5)})), "(+" + " 5" * 5000 + ")")


if __name__ == "__main__":
    unittest.main()
