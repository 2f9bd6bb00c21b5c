"""Which names of a program belong together, and giving names other texts."""

from sugartrue.expanding import Expander
from sugartrue.trees import NO_INDEX, grow


class Links:
    """Which indexes are linked, directly or through others."""

    def __init__(self):
        # For each index another one that it is linked to, or itself; following these from
        # linked indexes leads to the same index, their root.
        self.nexts = {}

    def root(self, index):
        at = self.nexts.setdefault(index, index)
        while self.nexts[at] != at:
            # Shortens the way for the next time.
            self.nexts[at] = self.nexts[self.nexts[at]]
            at = self.nexts[at]
        return at

    def link(self, first, second):
        """Links two indexes; an index that is linked to itself is only noted."""
        self.nexts[self.root(first)] = self.root(second)

    def groups(self):
        """For each root the ascending list of the indexes that lead to it; the first indexes ascend, too."""
        found = {}
        for index in sorted(self.nexts):
            found.setdefault(self.root(index), []).append(index)
        return found


class Linker(Expander):
    """An expander that notes which occurrences of names are linked.

    The bindings of forms and primitives all have the same index, which is no name's; so
    the occurrences that are fixed are linked to it.
    """

    def __init__(self):
        super().__init__()
        self.links = Links()

    def bind(self, name, kind, worth):
        super().bind(name, kind, worth)
        self.links.link(name.index, name.index)

    def look_up(self, name):
        binding = super().look_up(name)
        self.links.link(name.index, binding.index)
        return binding

    def read_rules(self, name, trees):
        rules = super().read_rules(name, trees)
        for rule in rules:
            for indexes in rule.occurrences:
                for index in indexes:
                    self.links.link(index, indexes[0])
        return rules


def classes(program):
    """The classes of linked names that can be renamed, each as the list of its indexes."""
    linker = Linker()
    linker.program([grow(tree) for tree in program])
    fixed = linker.links.root(NO_INDEX)
    groups = linker.links.groups()
    return [indexes for root, indexes in groups.items() if root != fixed]


def rename(program, indexes, text):
    """The program in which the names with these indexes have another text."""
    chosen = set(indexes)
    renamed = []
    # Trees, and the lists to which they go, the first one last.
    tasks = [(tree, renamed) for tree in reversed(program)]
    while tasks:
        tree, out = tasks.pop()
        if tree[0] == "list":
            inner = []
            out.append(("list", inner))
            tasks.extend([(item, inner) for item in reversed(tree[1])])
        elif tree[0] == "name" and tree[2] in chosen:
            out.append(("name", text, tree[2]))
        else:
            out.append(tree)
    return renamed
