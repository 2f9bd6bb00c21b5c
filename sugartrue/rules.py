"""Checking the rules of macros."""

from sugartrue.errors import FormError
from sugartrue.trees import Group, Name

ANYTHING = "_"
DOTS = "..."


class Rule:
    """A rule that has been checked.

    Its pattern, without the first item, and its template are nodes: ("int", n),
    ("any", None), ("variable", number), ("name", name) and ("list", entries). An entry is
    a pair of a node and, if the node is repeated, the list of the variables in it,
    otherwise None. The variables are numbered from 0 on; the occurrences are, for each of
    them, the list of the indexes of its names, the one in the pattern first.
    """

    def __init__(self, pattern, template, occurrences):
        self.pattern = pattern
        self.template = template
        self.occurrences = occurrences


def with_repetitions(parts):
    """The items of a list without the dots, each with whether dots follow it."""
    found = []
    for part in parts:
        if not isinstance(part, Name) or part.text != DOTS:
            found.append((part, False))
        elif found and not found[-1][1]:
            found[-1] = (found[-1][0], True)
        else:
            raise FormError("... does not follow an item")
    return found


def pattern_items(parts):
    """The same for a list in a pattern, where only the last item can be repeated."""
    found = with_repetitions(parts)
    if any([repeated for _, repeated in found[:-1]]):
        raise FormError("... is not the last item of a list in a pattern")
    return found


class RuleReader:
    """Reads one rule, first the pattern, then the template."""

    def __init__(self):
        self.numbers = {}
        self.depths = []
        self.occurrences = []
        # The variables in each repeated item of the rule.
        self.insides = []

    def read_side(self, tree, in_pattern):
        top = []
        # A tree, the variables in it if it is repeated, the same for all repeated items
        # that it is in, and the list to which its entry goes.
        tasks = [(tree, None, (), top)]
        while tasks:
            part, inside, around, out = tasks.pop()
            if isinstance(part, Group):
                entries = []
                tasks.extend(self.item_tasks(part, around, entries, in_pattern))
                node = ("list", entries)
            elif isinstance(part, Name):
                node = self.name_node(part, around, in_pattern)
            else:
                node = ("int", part.n)
            out.append((node, inside))
        return top[0][0]

    def item_tasks(self, group, around, out, in_pattern):
        """The tasks for the items of a list, the first item last."""
        parts = group.parts()
        found = pattern_items(parts) if in_pattern else with_repetitions(parts)
        tasks = []
        for part, repeated in found:
            if repeated:
                inside = []
                self.insides.append(inside)
                tasks.append((part, inside, (*around, inside), out))
            else:
                tasks.append((part, None, around, out))
        tasks.reverse()
        return tasks

    def name_node(self, name, around, in_pattern):
        if in_pattern and name.text == ANYTHING:
            return ("any", None)
        if in_pattern:
            number = self.new_variable(name, len(around))
        else:
            number = self.variable_used(name, len(around))
        if number is None:
            return ("name", name)
        for inside in around:
            inside.append(number)
        return ("variable", number)

    def new_variable(self, name, depth):
        if name.identity() in self.numbers:
            raise FormError(f"the pattern variable {name.text} occurs twice")
        number = len(self.depths)
        self.numbers[name.identity()] = number
        self.depths.append(depth)
        self.occurrences.append([name.index])
        return number

    def variable_used(self, name, depth):
        """The number of a variable in a template, or None for another name."""
        if name.text in (ANYTHING, DOTS):
            raise FormError(f"{name.text} has no use here in a template")
        number = self.numbers.get(name.identity())
        if number is None:
            return None
        if self.depths[number] != depth:
            raise FormError(f"{name.text} is not in as many repeated items as in the pattern")
        self.occurrences[number].append(name.index)
        return number


def read_rule(tree):
    """The rule of a tree."""
    parts = tree.parts() if isinstance(tree, Group) else []
    if len(parts) != 2 or not isinstance(parts[0], Group):
        raise FormError("a rule is not a pattern and a template")
    items = parts[0].parts()
    if not items or not isinstance(items[0], Name) or items[0].text == DOTS:
        raise FormError("a pattern does not begin with a name")
    reader = RuleReader()
    pattern = reader.read_side(Group(items[1:], (), parts[0].use), True)
    template = reader.read_side(parts[1], False)
    if not all(reader.insides):
        raise FormError("a repeated item contains no pattern variable")
    return Rule(pattern, template, reader.occurrences)
