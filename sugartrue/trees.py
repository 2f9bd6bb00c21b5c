"""Trees during an expansion: names have marks, and every tree knows the use that introduced it.

The marks of a name are a tuple of integers in ascending order, which tell it apart from
other names with the same text. For `expand` they are scopes.
None of these objects is changed once it is part of a tree: adding marks makes new ones.
"""

SOURCE = -1
# The index of names that do not stand in the text of a program.
NO_INDEX = -1


class Integer:
    def __init__(self, n, use):
        self.n = n
        self.use = use

    def marked(self, marks):
        """The tree with marks added, which are newer than all marks in it."""
        return self


class Name:
    """A copy of the name that has an index in the program."""

    def __init__(self, text, marks, use, index):
        self.text = text
        self.marks = marks
        self.use = use
        self.index = index

    def marked(self, marks):
        """The tree with marks added, which are newer than all marks in it."""
        return Name(self.text, self.marks + marks, self.use, self.index)

    def identity(self):
        """What two names have in common that are the same parameter or pattern variable."""
        return (self.text, self.marks)


class Group:
    """A list.

    Marks that are added to it wait in it until its items are asked for, so that adding
    them takes one step, however large and deep the list is.
    """

    def __init__(self, held, waiting, use):
        self.held = held
        self.waiting = waiting
        self.use = use

    def marked(self, marks):
        """The tree with marks added, which are newer than all marks in it."""
        return Group(self.held, self.waiting + marks, self.use)

    def parts(self):
        """The items, with all marks that were added; the caller does not change this list."""
        if self.waiting:
            # Other groups may share the old list of items, so it is left as it is.
            self.held = [part.marked(self.waiting) for part in self.held]
            self.waiting = ()
        return self.held


def grow(tree):
    """A tree of a program as a tree without marks that stands in the source."""
    top = []
    tasks = [(tree, top)]
    while tasks:
        part, out = tasks.pop()
        if part[0] == "int":
            out.append(Integer(part[1], SOURCE))
        elif part[0] == "name":
            out.append(Name(part[1], (), SOURCE, part[2]))
        else:
            inner = []
            out.append(Group(inner, (), SOURCE))
            tasks.extend([(item, inner) for item in reversed(part[1])])
    return top[0]


def plain(tree):
    """A tree in the form of the trees of a program."""
    top = []
    tasks = [(tree, top)]
    while tasks:
        part, out = tasks.pop()
        if isinstance(part, Integer):
            out.append(("int", part.n))
        elif isinstance(part, Name):
            out.append(("name", part.text, part.index))
        else:
            inner = []
            out.append(("list", inner))
            tasks.extend([(item, inner) for item in reversed(part.parts())])
    return top[0]


def has_more_trees(tree, limit):
    """Whether there are more trees in a tree than the limit, the tree itself counted."""
    count = 0
    tasks = [tree]
    while tasks and count <= limit:
        part = tasks.pop()
        count += 1
        if isinstance(part, Group):
            tasks.extend(part.held)
    return count > limit
