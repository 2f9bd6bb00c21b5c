"""Putting a use of a macro back in place of the tree that it has become."""

from sugartrue.errors import SugarError
from sugartrue.matching import repetitions_of
from sugartrue.trees import Group, Integer, Name


class UndoingError(SugarError):
    """A use of a macro cannot be put back in place of a tree."""


def nodes_in(node):
    """All nodes in a node of a rule, itself included."""
    found = []
    tasks = [node]
    while tasks:
        part = tasks.pop()
        found.append(part)
        if part[0] == "list":
            tasks.extend([inner for inner, _ in part[1]])
    return found


def repeated_places(entries):
    """The places of the repeated items of a list."""
    return [at for at, (_, inside) in enumerate(entries) if inside is not None]


def can_be_undone(rule):
    """Whether an instance of the template of a rule tells all items of a use, in one way only."""
    if any([kind == "any" for kind, _ in nodes_in(rule.pattern)]):
        return False
    held = {}
    for kind, worth in nodes_in(rule.template):
        if kind == "variable":
            held[worth] = True
        elif kind == "list" and len(repeated_places(worth)) > 1:
            return False
    return len(held) == len(rule.occurrences)


def spread(entries, parts):
    """The entries of a list of a template, each with the parts that belong to it."""
    repeated = repeated_places(entries)
    more = len(parts) - len(entries)
    if more < -len(repeated) or (more > 0 and not repeated):
        raise UndoingError("a list has too few or too many items")
    rows = []
    start = 0
    for entry in entries:
        count = 1 if entry[1] is None else more + 1
        rows.append((entry, parts[start:start + count]))
        start += count
    return rows


def label(worth):
    """What a tree is, without the items of a list; also for lists of trees."""
    if isinstance(worth, list):
        return ("trees", 0)
    if isinstance(worth, Group):
        return ("list", worth.use)
    if isinstance(worth, Name):
        return ("name", worth.use, worth.text)
    return ("int", worth.use, worth.n)


def are_equal(first, second):
    """Whether two trees, or two lists of such, are equal and introduced by the same uses."""
    tasks = [(first, second)]
    while tasks:
        one, other = tasks.pop()
        if label(one) != label(other):
            return False
        if isinstance(one, Group):
            one, other = one.parts(), other.parts()
        if isinstance(one, list):
            if len(one) != len(other):
                return False
            tasks.extend(list(zip(one, other)))
    return True


def add_all(found, more):
    """Adds what variables stand for to what others do; a variable stands for equal trees only."""
    for variable, worth in more.items():
        if not are_equal(found.setdefault(variable, worth), worth):
            raise UndoingError("a pattern variable stands for different trees")


class Undoing:
    """Puts the use with a number back in place of what its result has become."""

    def __init__(self, number, use):
        self.number = number
        self.use = use
        self.is_possible = can_be_undone(use.rule)

    def put_back(self, tree):
        """The use as it would be written to become a tree; no tree is changed."""
        if not self.is_possible:
            raise UndoingError("a rule cannot be undone")
        found = self.given(self.use.rule.template, tree)
        head, *items = self.use.tree.parts()
        _, entries = self.use.rule.pattern
        use = self.use.tree.use
        return Group([head, *written_items(entries, found, items, use)], (), use)

    def given(self, node, tree):
        """What the variables in a node of the template stand for if it became a tree."""
        kind, worth = node
        if kind == "variable":
            return {worth: tree}
        if tree.use != self.number or not fits(kind, worth, tree):
            raise UndoingError("a tree does not match the template")
        found = {}
        if kind == "list":
            for (inner, inside), parts in spread(worth, tree.parts()):
                add_all(found, self.given_by_row(inner, inside, parts))
        return found

    def given_by_row(self, node, inside, parts):
        """The same for a node that became some parts; if it is not repeated, there is one of them."""
        rows = [self.given(node, part) for part in parts]
        if inside is None:
            return rows[0]
        return {variable: [row[variable] for row in rows] for variable in inside}


def fits(kind, worth, tree):
    """Whether a tree is a list or such an integer or name, as a node of a template is."""
    if kind == "int":
        return isinstance(tree, Integer) and tree.n == worth
    if kind == "name":
        return isinstance(tree, Name) and tree.text == worth.text
    return isinstance(tree, Group)


def written_items(entries, found, originals, use):
    """The items of a list of a pattern, with trees in place of the variables.

    Its lists and integers were introduced as those of the use were that matched it, which
    are among the originals. What has no original was introduced by the use that is given.
    """
    items = []
    for at, (node, inside) in enumerate(entries):
        rows = [found] if inside is None else repetitions_of(inside, found)
        for more, row in enumerate(rows):
            original = originals[at + more] if at + more < len(originals) else None
            items.append(written(node, row, original, use))
    return items


def written(node, found, original, use):
    """The same for one node and its original, or None."""
    kind, worth = node
    if kind == "variable":
        return found[worth]
    if original is not None:
        use = original.use
    if kind == "int":
        return Integer(worth, use)
    inner = original.parts() if original is not None else []
    return Group(written_items(worth, found, inner, use), (), use)
