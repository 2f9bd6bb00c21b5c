"""Expanding programs into terms, with sets of scopes."""

from sugartrue.bindings import Bindings
from sugartrue.errors import FormError, LimitError, MatchError
from sugartrue.matching import instantiate, match_rule
from sugartrue.rules import ANYTHING, DOTS, read_rule
from sugartrue.trees import SOURCE, Group, Integer, Name, grow, has_more_trees

MOST_USES = 200
LARGEST_INSTANCE = 600
DEEPEST_EXPRESSION = 60
FORMS = ("fn", "let", "rec", "if", "with")
PRIMITIVES = ("+", "-", "*", "<", "=", "pair", "head", "tail", "none")


def check_shape(fits, form):
    if not fits:
        raise FormError(f"a {form} does not have its shape")


def check_bound_names(trees):
    for tree in trees:
        if not isinstance(tree, Name) or tree.text in (ANYTHING, DOTS):
            raise FormError("what is bound is not a name that can be bound")


def check_parameters(trees):
    check_bound_names(trees)
    if len(set([tree.identity() for tree in trees])) < len(trees):
        raise FormError("the same parameter occurs twice")


class Expander:
    """The state of one expansion: its bindings, and the numbers that are used up."""

    def __init__(self):
        self.bindings = Bindings()
        self.scope_count = 0
        self.variable_count = 0
        self.use_count = 0
        for text in FORMS:
            self.bindings.bind(Name(text, (), SOURCE), "form", text)
        for text in PRIMITIVES:
            self.bindings.bind(Name(text, (), SOURCE), "primitive", text)

    def new_scope(self):
        self.scope_count += 1
        return self.scope_count - 1

    def new_use(self):
        if self.use_count == MOST_USES:
            raise LimitError("too many uses of macros are expanded")
        self.use_count += 1
        return self.use_count - 1

    def bind_variable(self, name, scope):
        number = self.variable_count
        self.variable_count += 1
        self.bindings.bind(name.scoped((scope,)), "variable", number)
        return number

    def program(self, trees):
        if not trees:
            raise FormError("a program has no tree")
        while len(trees) > 1:
            scope = self.new_scope()
            scoped = [tree.scoped((scope,)) for tree in trees]
            self.definition(scoped[0])
            trees = scoped[1:]
        return self.expression(trees[0], 0, ())

    def definition(self, tree):
        """Binds the macro of a definition, to which its scope is added already."""
        parts = tree.parts() if isinstance(tree, Group) else []
        if not parts or not isinstance(parts[0], Name) or parts[0].text != "macro":
            raise FormError("a tree before the expression is not a definition")
        check_shape(len(parts) > 2, "definition")
        self.bind_macro(parts[1], parts[2:])

    def bind_macro(self, name, trees):
        check_bound_names([name])
        rules = [read_rule(tree) for tree in trees]
        self.bindings.bind(name, "macro", rules)

    def expression(self, tree, depth, results):
        """The term of an expression that is the result of the uses in a tuple."""
        while True:
            if depth > DEEPEST_EXPRESSION:
                raise LimitError("an expression is nested too deep")
            if not isinstance(tree, Group):
                return self.single(tree, results)
            parts = tree.parts()
            kind, worth = self.beginning(parts)
            if kind == "macro":
                use = self.new_use()
                results = (*results, use)
                tree = self.result(worth, parts[1:], use)
            elif kind == "form" and worth == "with":
                tree = self.body_of_with(parts)
            elif kind == "form":
                return self.form(worth, parts, depth + 1, (tree.use, results, parts[0].use))
            else:
                return self.application(parts, depth + 1, (tree.use, results, -1))
            # The result of a use and the body of a `with` take the place of the tree.
            depth += 1

    def single(self, tree, results):
        """The term of an integer or a name."""
        origin = (tree.use, results, -1)
        if isinstance(tree, Integer):
            return ("int", tree.n, origin)
        binding = self.bindings.look_up(tree)
        if binding.kind == "variable":
            return ("ref", binding.worth, origin)
        if binding.kind == "primitive":
            return ("prim", binding.worth, origin)
        raise FormError(f"{tree.text} is not a variable or a primitive")

    def beginning(self, parts):
        """What the first item of a list means: the kind and the worth of its binding."""
        if not parts:
            raise FormError("an empty list is not an expression")
        if not isinstance(parts[0], Name):
            return ("function", None)
        binding = self.bindings.look_up(parts[0])
        return (binding.kind, binding.worth)

    def result(self, rules, items, use):
        """The tree that a use of a macro with these rules becomes."""
        scope_of_use = self.new_scope()
        scope_of_result = self.new_scope()
        group = Group(items, (scope_of_use,), SOURCE)
        for rule in rules:
            found = match_rule(rule, group)
            if found is not None:
                tree = instantiate(rule, found, use, scope_of_result)
                if has_more_trees(tree, LARGEST_INSTANCE):
                    raise LimitError("an instance of a template has too many trees")
                return tree
        raise MatchError("no rule matches a use of a macro")

    def body_of_with(self, parts):
        check_shape(len(parts) == 4 and isinstance(parts[2], Group), "with")
        scope = self.new_scope()
        _, name, rules, body = [part.scoped((scope,)) for part in parts]
        check_shape(len(rules.parts()) > 0, "with")
        self.bind_macro(name, rules.parts())
        return body

    def form(self, text, parts, depth, origin):
        """The term of a form other than `with`, whose expressions are nested so deep."""
        if text == "fn":
            return self.function(parts, depth, origin)
        if text == "rec":
            return self.recursive(parts, depth, origin)
        if text == "let":
            return self.let(parts, depth, origin)
        check_shape(len(parts) == 4, "if")
        test, first, second = [self.expression(part, depth, ()) for part in parts[1:]]
        return ("if", test, first, second, origin)

    def function(self, parts, depth, origin):
        check_shape(len(parts) == 3 and isinstance(parts[1], Group), "fn")
        numbers, body = self.scoped_body(parts[1].parts(), parts[2], depth)
        return ("fn", numbers, body, origin)

    def recursive(self, parts, depth, origin):
        check_shape(len(parts) == 4 and isinstance(parts[2], Group), "rec")
        numbers, body = self.scoped_body([parts[1], *parts[2].parts()], parts[3], depth)
        return ("rec", numbers[0], numbers[1:], body, origin)

    def let(self, parts, depth, origin):
        check_shape(len(parts) == 4, "let")
        check_bound_names([parts[1]])
        value = self.expression(parts[2], depth, ())
        numbers, body = self.scoped_body([parts[1]], parts[3], depth)
        return ("let", numbers[0], value, body, origin)

    def scoped_body(self, names, body, depth):
        """The numbers of the variables that a form binds, and the term of its body."""
        check_parameters(names)
        scope = self.new_scope()
        numbers = [self.bind_variable(name, scope) for name in names]
        return numbers, self.expression(body.scoped((scope,)), depth, ())

    def application(self, parts, depth, origin):
        function = self.expression(parts[0], depth, ())
        args = [self.expression(part, depth, ()) for part in parts[1:]]
        return ("app", function, args, origin)


def expand(program):
    """The term of a program."""
    return Expander().program([grow(tree) for tree in program])
