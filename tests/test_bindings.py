"""The table of bindings itself: not every case of point 17 is reached by a program."""

import unittest

from sugartrue.bindings import Bindings
from sugartrue.errors import ScopeError
from sugartrue.trees import NO_INDEX, SOURCE, Name


def name(text, *scopes):
    return Name(text, scopes, SOURCE, NO_INDEX)


class Lookup(unittest.TestCase):
    def setUp(self):
        self.bindings = Bindings()
        for number, scopes in enumerate([(), (1,), (1, 3), (2,), (1, 2, 5)]):
            self.bindings.bind(name("x", *scopes), "variable", number)
        self.bindings.bind(name("y", 4), "variable", 9)

    def finds(self, number, *scopes):
        self.assertEqual(self.bindings.look_up(name("x", *scopes)).worth, number)

    def test_the_scopes_of_the_binding_are_a_subset(self):
        self.finds(0)
        self.finds(0, 3)
        self.finds(0, 4, 5)
        self.finds(1, 1)
        self.finds(1, 1, 4, 6)
        self.finds(3, 2)
        self.finds(3, 2, 3, 5)

    def test_the_binding_that_contains_all_others(self):
        self.finds(2, 1, 3)
        self.finds(2, 0, 1, 3, 7)
        self.finds(4, 1, 2, 5)

    def test_no_binding(self):
        for wrong in (name("z"), name("z", 1, 2), name("y"), name("y", 1, 3)):
            with self.assertRaises(ScopeError):
                self.bindings.look_up(wrong)

    def test_no_binding_that_contains_all_others(self):
        for scopes in ((1, 2), (1, 2, 3), (1, 2, 3, 4), (1, 2, 3, 5)):
            with self.assertRaises(ScopeError):
                self.bindings.look_up(name("x", *scopes))


if __name__ == "__main__":
    unittest.main()
