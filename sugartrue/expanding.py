"""Expanding programs into terms, with sets of scopes."""

from sugartrue.bindings import Bindings
from sugartrue.errors import FormError
from sugartrue.forms import FORMS, PRIMITIVES, check_depth, check_uses, parts_of_definition, parts_of_function
from sugartrue.forms import parts_of_if, parts_of_let, parts_of_recursive, parts_of_with, read_macro
from sugartrue.matching import result_of_use
from sugartrue.trees import NO_INDEX, SOURCE, Group, Integer, Name, grow


class Macro:
    """The rules of a macro, and whether it was defined by a definition, not by a `with`."""

    def __init__(self, rules, is_defined):
        self.rules = rules
        self.is_defined = is_defined


class Use:
    """A use of a macro that was expanded: the list that it was, the macro, and the rule that matched."""

    def __init__(self, tree, macro, rule):
        self.tree = tree
        self.macro = macro
        self.rule = rule


class Expander:
    """The state of one expansion: its bindings, the numbers that are used up, and the uses so far.

    Classes below this one learn what happens in an expansion by the methods `bind`,
    `look_up`, `read_rules` and `origin`.
    """

    def __init__(self):
        self.bindings = Bindings()
        self.scope_count = 0
        self.variable_count = 0
        self.uses = []
        for text in FORMS:
            self.bindings.bind(Name(text, (), SOURCE, NO_INDEX), "form", text)
        for text in PRIMITIVES:
            self.bindings.bind(Name(text, (), SOURCE, NO_INDEX), "primitive", text)

    def new_scope(self):
        self.scope_count += 1
        return self.scope_count - 1

    def bind(self, name, kind, worth):
        self.bindings.bind(name, kind, worth)

    def look_up(self, name):
        """The binding of a name that is an expression or the first item of a list."""
        return self.bindings.look_up(name)

    def read_rules(self, name, trees):
        """The rules of a macro that is to be bound to a name."""
        return read_macro(name, trees)

    def origin(self, tree, results, front):
        """The origin of the term of a tree that is the result of the uses in a tuple.

        The front are the items of the tree of a form before the expressions in it.
        """
        return (tree.use, results, front[0].use if front else -1)

    def bind_variable(self, name, scope):
        number = self.variable_count
        self.variable_count += 1
        self.bind(name.marked((scope,)), "variable", number)
        return number

    def bind_macro(self, name, trees, is_defined):
        self.bind(name, "macro", Macro(self.read_rules(name, trees), is_defined))

    def program(self, trees):
        if not trees:
            raise FormError("a program has no tree")
        while len(trees) > 1:
            scope = self.new_scope()
            marked = [tree.marked((scope,)) for tree in trees]
            name, rules = parts_of_definition(marked[0])
            self.bind_macro(name, rules, True)
            trees = marked[1:]
        return self.expression(trees[0], 0, ())

    def expression(self, tree, depth, results):
        """The term of an expression that is the result of the uses in a tuple."""
        while True:
            check_depth(depth)
            if not isinstance(tree, Group):
                return self.single(tree, results)
            kind, worth = self.beginning(tree.parts())
            if kind == "macro":
                results = (*results, len(self.uses))
                tree = self.result(tree, worth)
            elif kind == "form" and worth == "with":
                tree = self.body_of_with(tree.parts())
            elif kind == "form":
                return self.form(worth, tree, depth + 1, results)
            else:
                return self.application(tree, depth + 1, results)
            # The result of a use and the body of a `with` take the place of the tree.
            depth += 1

    def single(self, tree, results):
        """The term of an integer or a name."""
        origin = self.origin(tree, results, [])
        if isinstance(tree, Integer):
            return ("int", tree.n, origin)
        binding = self.look_up(tree)
        if binding.kind == "variable":
            return ("ref", binding.worth, origin)
        if binding.kind == "primitive":
            return ("prim", binding.worth, origin)
        raise FormError(f"{tree.text} is not a variable or a primitive")

    def beginning(self, parts):
        """What the first item of a list means: the kind and the worth of its binding."""
        if not parts:
            raise FormError("an empty list is not an expression")
        if not isinstance(parts[0], Name):
            return ("function", None)
        binding = self.look_up(parts[0])
        return (binding.kind, binding.worth)

    def result(self, tree, macro):
        """The tree that a use of a macro becomes."""
        use = len(self.uses)
        check_uses(use + 1)
        scope_of_use = self.new_scope()
        scope_of_result = self.new_scope()
        items = Group(tree.parts()[1:], (scope_of_use,), SOURCE)
        rule, result = result_of_use(macro.rules, items, use, scope_of_result)
        self.uses.append(Use(tree, macro, rule))
        return result

    def body_of_with(self, parts):
        scope = self.new_scope()
        name, rules, body = [part.marked((scope,)) for part in parts_of_with(parts)]
        self.bind_macro(name, rules.parts(), False)
        return body

    def form(self, text, tree, depth, results):
        """The term of a form other than `with`, whose expressions are nested so deep."""
        parts = tree.parts()
        if text == "fn":
            names, body = parts_of_function(parts)
            numbers, inner = self.scoped_body(names, body, depth)
            return ("fn", numbers, inner, self.origin(tree, results, parts[:2]))
        if text == "rec":
            names, body = parts_of_recursive(parts)
            numbers, inner = self.scoped_body(names, body, depth)
            return ("rec", numbers[0], numbers[1:], inner, self.origin(tree, results, parts[:3]))
        if text == "let":
            name, value, body = parts_of_let(parts)
            outer = self.expression(value, depth, ())
            numbers, inner = self.scoped_body([name], body, depth)
            return ("let", numbers[0], outer, inner, self.origin(tree, results, parts[:2]))
        test, first, second = [self.expression(part, depth, ()) for part in parts_of_if(parts)]
        return ("if", test, first, second, self.origin(tree, results, parts[:1]))

    def scoped_body(self, names, body, depth):
        """The numbers of the variables that a form binds, and the term of its body."""
        scope = self.new_scope()
        numbers = [self.bind_variable(name, scope) for name in names]
        return numbers, self.expression(body.marked((scope,)), depth, ())

    def application(self, tree, depth, results):
        function, *args = [self.expression(part, depth, ()) for part in tree.parts()]
        return ("app", function, args, self.origin(tree, results, []))


def expand(program):
    """The term of a program."""
    return Expander().program([grow(tree) for tree in program])
