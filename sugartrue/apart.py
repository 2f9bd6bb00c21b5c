"""Expanding programs into terms without scopes, with environments and new names.

The marks of a name are here the numbers of the uses that introduced it, the newest one
last. So a use that introduces names makes a new name of each of them, and the name that
a new one stands for is the one without the last mark.
"""

from sugartrue.errors import FormError, ScopeError
from sugartrue.forms import FORMS, PRIMITIVES, check_depth, check_uses, parts_of_definition, parts_of_function
from sugartrue.forms import parts_of_if, parts_of_let, parts_of_recursive, parts_of_with, read_macro
from sugartrue.matching import result_of_use
from sugartrue.terms import NOWHERE
from sugartrue.trees import SOURCE, Group, Integer, Name, grow


class Macro:
    """The rules of a macro, and the environment in which it was defined, itself included."""

    def __init__(self, rules):
        self.rules = rules
        self.environment = {}


def first_environment():
    """The meanings of names that nothing in a program binds.

    An environment is a dict from the identities of names to meanings. A meaning is a pair:
    ("form", its name), ("primitive", its name), ("variable", its number) or ("macro", a Macro).
    """
    environment = {(text, ()): ("form", text) for text in FORMS}
    environment.update({(text, ()): ("primitive", text) for text in PRIMITIVES})
    return environment


def extended(environment, names, meanings):
    larger = {identity: environment[identity] for identity in environment}
    for name, meaning in zip(names, meanings):
        larger[name.identity()] = meaning
    return larger


def with_macro(environment, name, trees):
    """An environment in which a name is bound to a macro that is defined there."""
    macro = Macro(read_macro(name, trees))
    macro.environment = extended(environment, [name], [("macro", macro)])
    return macro.environment


class ApartExpander:
    """The state of one expansion: how many variables there are, and the uses."""

    def __init__(self):
        self.variable_count = 0
        # For each use, by its number, the environment in which its macro was defined.
        self.remembered = []

    def new_variable(self):
        self.variable_count += 1
        return self.variable_count - 1

    def meaning(self, name, environment):
        text, marks = name.identity()
        while (text, marks) not in environment:
            if not marks:
                raise ScopeError(f"{text} is not bound")
            environment = self.remembered[marks[-1]]
            marks = marks[:-1]
        return environment[(text, marks)]

    def program(self, trees):
        if not trees:
            raise FormError("a program has no tree")
        environment = first_environment()
        for tree in trees[:-1]:
            name, rules = parts_of_definition(tree)
            environment = with_macro(environment, name, rules)
        return self.expression(trees[-1], 0, environment)

    def expression(self, tree, depth, environment):
        while True:
            check_depth(depth)
            if not isinstance(tree, Group):
                return self.single(tree, environment)
            parts = tree.parts()
            kind, worth = self.beginning(parts, environment)
            if kind == "macro":
                tree = self.result(worth, parts[1:])
            elif kind == "form" and worth == "with":
                name, rules, tree = parts_of_with(parts)
                environment = with_macro(environment, name, rules.parts())
            elif kind == "form":
                return self.form(worth, parts, depth + 1, environment)
            else:
                return self.application(parts, depth + 1, environment)
            # The result of a use and the body of a `with` take the place of the tree.
            depth += 1

    def single(self, tree, environment):
        """The term of an integer or a name."""
        if isinstance(tree, Integer):
            return ("int", tree.n, NOWHERE)
        kind, worth = self.meaning(tree, environment)
        if kind == "variable":
            return ("ref", worth, NOWHERE)
        if kind == "primitive":
            return ("prim", worth, NOWHERE)
        raise FormError(f"{tree.text} is not a variable or a primitive")

    def beginning(self, parts, environment):
        """The meaning of the first item of a list."""
        if not parts:
            raise FormError("an empty list is not an expression")
        if not isinstance(parts[0], Name):
            return ("function", None)
        return self.meaning(parts[0], environment)

    def result(self, macro, items):
        """The tree that a use of a macro becomes."""
        use = len(self.remembered)
        check_uses(use + 1)
        self.remembered.append(macro.environment)
        _, tree = result_of_use(macro.rules, Group(items, (), SOURCE), use, use)
        return tree

    def form(self, text, parts, depth, environment):
        """The term of a form other than `with`, whose expressions are nested so deep."""
        if text == "fn":
            names, body = parts_of_function(parts)
            numbers, inner = self.bound_body(names, body, depth, environment)
            return ("fn", numbers, inner, NOWHERE)
        if text == "rec":
            names, body = parts_of_recursive(parts)
            numbers, inner = self.bound_body(names, body, depth, environment)
            return ("rec", numbers[0], numbers[1:], inner, NOWHERE)
        if text == "let":
            name, value, body = parts_of_let(parts)
            outer = self.expression(value, depth, environment)
            numbers, inner = self.bound_body([name], body, depth, environment)
            return ("let", numbers[0], outer, inner, NOWHERE)
        test, first, second = [self.expression(part, depth, environment) for part in parts_of_if(parts)]
        return ("if", test, first, second, NOWHERE)

    def bound_body(self, names, body, depth, environment):
        """The numbers of the variables that a form binds, and the term of its body."""
        numbers = [self.new_variable() for _ in names]
        larger = extended(environment, names, [("variable", number) for number in numbers])
        return numbers, self.expression(body, depth, larger)

    def application(self, parts, depth, environment):
        function = self.expression(parts[0], depth, environment)
        args = [self.expression(part, depth, environment) for part in parts[1:]]
        return ("app", function, args, NOWHERE)


def expand_apart(program):
    """The term of a program, expanded without scopes; all its origins say nothing."""
    return ApartExpander().program([grow(tree) for tree in program])
