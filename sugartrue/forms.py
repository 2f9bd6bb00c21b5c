"""What both expanders share: the shapes of definitions and forms, and the limits of an expansion."""

from sugartrue.errors import FormError, LimitError
from sugartrue.rules import ANYTHING, DOTS, read_rule
from sugartrue.trees import Group, Name

MOST_USES = 200
DEEPEST_EXPRESSION = 60
FORMS = ("fn", "let", "rec", "if", "with")
PRIMITIVES = ("+", "-", "*", "<", "=", "pair", "head", "tail", "none")


def check_depth(depth):
    if depth > DEEPEST_EXPRESSION:
        raise LimitError("an expression is nested too deep")


def check_uses(count):
    if count > MOST_USES:
        raise LimitError("too many uses of macros are expanded")


def check_shape(fits, form):
    if not fits:
        raise FormError(f"a {form} does not have its shape")


def check_bound_names(trees):
    for tree in trees:
        if not isinstance(tree, Name) or tree.text in (ANYTHING, DOTS):
            raise FormError("what is bound is not a name that can be bound")


def check_parameters(trees):
    check_bound_names(trees)
    if len(set([tree.identity() for tree in trees])) < len(trees):
        raise FormError("the same parameter occurs twice")


def read_macro(name, trees):
    """The rules of a macro that is to be bound to a name."""
    check_bound_names([name])
    return [read_rule(tree) for tree in trees]


def parts_of_definition(tree):
    """The name of a definition, and its rules as a list of trees."""
    parts = tree.parts() if isinstance(tree, Group) else []
    if not parts or not isinstance(parts[0], Name) or parts[0].text != "macro":
        raise FormError("a tree before the expression is not a definition")
    check_shape(len(parts) > 2, "definition")
    return parts[1], parts[2:]


def parts_of_with(parts):
    """The name of a `with`, its rules as one list of trees, and its body."""
    check_shape(len(parts) == 4 and isinstance(parts[2], Group), "with")
    check_shape(len(parts[2].parts()) > 0, "with")
    return parts[1], parts[2], parts[3]


def parts_of_function(parts):
    """The parameters of a `fn` and its body."""
    check_shape(len(parts) == 3 and isinstance(parts[1], Group), "fn")
    names = parts[1].parts()
    check_parameters(names)
    return names, parts[2]


def parts_of_recursive(parts):
    """The name of a `rec` and its parameters, in one list, and its body."""
    check_shape(len(parts) == 4 and isinstance(parts[2], Group), "rec")
    names = [parts[1], *parts[2].parts()]
    check_parameters(names)
    return names, parts[3]


def parts_of_let(parts):
    """The name of a `let`, its value and its body."""
    check_shape(len(parts) == 4, "let")
    check_bound_names([parts[1]])
    return parts[1], parts[2], parts[3]


def parts_of_if(parts):
    """The test of an `if` and its two branches."""
    check_shape(len(parts) == 4, "if")
    return parts[1:]
