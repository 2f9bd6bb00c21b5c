"""Expanding programs into terms, with sets of scopes."""

from sugartrue.bindings import Bindings
from sugartrue.errors import FormError
from sugartrue.forms import FORMS, PRIMITIVES, check_depth, check_uses, parts_of_definition, parts_of_function
from sugartrue.forms import parts_of_if, parts_of_let, parts_of_recursive, parts_of_with, read_macro
from sugartrue.matching import result_of_use
from sugartrue.trees import SOURCE, Group, Integer, Name, grow


class Expander:
    """The state of one expansion: its bindings, and the numbers that are used up."""

    def __init__(self):
        self.bindings = Bindings()
        self.scope_count = 0
        self.variable_count = 0
        self.use_count = 0
        for text in FORMS:
            self.bindings.bind(Name(text, (), SOURCE), "form", text)
        for text in PRIMITIVES:
            self.bindings.bind(Name(text, (), SOURCE), "primitive", text)

    def new_scope(self):
        self.scope_count += 1
        return self.scope_count - 1

    def new_use(self):
        self.use_count += 1
        check_uses(self.use_count)
        return self.use_count - 1

    def bind_variable(self, name, scope):
        number = self.variable_count
        self.variable_count += 1
        self.bindings.bind(name.marked((scope,)), "variable", number)
        return number

    def bind_macro(self, name, trees):
        self.bindings.bind(name, "macro", read_macro(name, trees))

    def program(self, trees):
        if not trees:
            raise FormError("a program has no tree")
        while len(trees) > 1:
            scope = self.new_scope()
            marked = [tree.marked((scope,)) for tree in trees]
            name, rules = parts_of_definition(marked[0])
            self.bind_macro(name, rules)
            trees = marked[1:]
        return self.expression(trees[0], 0, ())

    def expression(self, tree, depth, results):
        """The term of an expression that is the result of the uses in a tuple."""
        while True:
            check_depth(depth)
            if not isinstance(tree, Group):
                return self.single(tree, results)
            parts = tree.parts()
            kind, worth = self.beginning(parts)
            if kind == "macro":
                use = self.new_use()
                results = (*results, use)
                tree = self.result(worth, parts[1:], use)
            elif kind == "form" and worth == "with":
                tree = self.body_of_with(parts)
            elif kind == "form":
                return self.form(worth, parts, depth + 1, (tree.use, results, parts[0].use))
            else:
                return self.application(parts, depth + 1, (tree.use, results, -1))
            # The result of a use and the body of a `with` take the place of the tree.
            depth += 1

    def single(self, tree, results):
        """The term of an integer or a name."""
        origin = (tree.use, results, -1)
        if isinstance(tree, Integer):
            return ("int", tree.n, origin)
        binding = self.bindings.look_up(tree)
        if binding.kind == "variable":
            return ("ref", binding.worth, origin)
        if binding.kind == "primitive":
            return ("prim", binding.worth, origin)
        raise FormError(f"{tree.text} is not a variable or a primitive")

    def beginning(self, parts):
        """What the first item of a list means: the kind and the worth of its binding."""
        if not parts:
            raise FormError("an empty list is not an expression")
        if not isinstance(parts[0], Name):
            return ("function", None)
        binding = self.bindings.look_up(parts[0])
        return (binding.kind, binding.worth)

    def result(self, rules, items, use):
        """The tree that a use of a macro with these rules becomes."""
        scope_of_use = self.new_scope()
        scope_of_result = self.new_scope()
        return result_of_use(rules, Group(items, (scope_of_use,), SOURCE), use, scope_of_result)

    def body_of_with(self, parts):
        scope = self.new_scope()
        name, rules, body = [part.marked((scope,)) for part in parts_of_with(parts)]
        self.bind_macro(name, rules.parts())
        return body

    def form(self, text, parts, depth, origin):
        """The term of a form other than `with`, whose expressions are nested so deep."""
        if text == "fn":
            names, body = parts_of_function(parts)
            numbers, inner = self.scoped_body(names, body, depth)
            return ("fn", numbers, inner, origin)
        if text == "rec":
            names, body = parts_of_recursive(parts)
            numbers, inner = self.scoped_body(names, body, depth)
            return ("rec", numbers[0], numbers[1:], inner, origin)
        if text == "let":
            name, value, body = parts_of_let(parts)
            outer = self.expression(value, depth, ())
            numbers, inner = self.scoped_body([name], body, depth)
            return ("let", numbers[0], outer, inner, origin)
        test, first, second = [self.expression(part, depth, ()) for part in parts_of_if(parts)]
        return ("if", test, first, second, origin)

    def scoped_body(self, names, body, depth):
        """The numbers of the variables that a form binds, and the term of its body."""
        scope = self.new_scope()
        numbers = [self.bind_variable(name, scope) for name in names]
        return numbers, self.expression(body.marked((scope,)), depth, ())

    def application(self, parts, depth, origin):
        function = self.expression(parts[0], depth, ())
        args = [self.expression(part, depth, ()) for part in parts[1:]]
        return ("app", function, args, origin)


def expand(program):
    """The term of a program."""
    return Expander().program([grow(tree) for tree in program])
