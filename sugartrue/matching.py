"""Matching the patterns of rules, and making instances of their templates."""

from sugartrue.errors import LimitError, MatchError
from sugartrue.trees import Group, Integer, Name, has_more_trees

LARGEST_INSTANCE = 600


def result_of_use(rules, group, use, mark):
    """The rule that expands a use of a macro with some rules, and the tree that the use becomes.

    The group holds the items of the use behind the first one; the mark is added to the
    names that the use introduces.
    """
    for rule in rules:
        found = match_rule(rule, group)
        if found is not None:
            tree = instantiate(rule, found, use, mark)
            if has_more_trees(tree, LARGEST_INSTANCE):
                raise LimitError("an instance of a template has too many trees")
            return rule, tree
    raise MatchError("no rule matches a use of a macro")


def match_rule(rule, group):
    """What a list without its first item gives the variables of a rule.

    This is a dict from the numbers of the variables to trees, or to lists of such for
    variables that are repeated. If the pattern does not match, it is None.
    """
    found = {number: [] for number in range(len(rule.occurrences))}
    # A node, the tree for it, and the lists to which its variables add what they get.
    tasks = [(rule.pattern, group, found)]
    while tasks:
        (kind, worth), tree, slots = tasks.pop()
        if kind == "variable":
            slots[worth].append(tree)
        elif kind == "int":
            if not isinstance(tree, Integer) or tree.n != worth:
                return None
        elif kind == "list":
            more = item_matches(worth, tree, slots)
            if more is None:
                return None
            tasks.extend(more)
    return {number: got[0] for number, got in found.items()}


def item_matches(entries, tree, slots):
    """The tasks for the items of a list, the first item last, or None if they do not fit."""
    if not isinstance(tree, Group):
        return None
    parts = tree.parts()
    repeated = bool(entries) and entries[-1][1] is not None
    single = len(entries) - 1 if repeated else len(entries)
    if len(parts) < single or (len(parts) > single and not repeated):
        return None
    tasks = [(entries[at][0], parts[at], slots) for at in range(single)]
    if repeated:
        node, inside = entries[-1]
        repetitions = {number: [] for number in inside}
        for number in inside:
            slots[number].append(repetitions[number])
        tasks.extend([(node, part, repetitions) for part in parts[single:]])
    tasks.reverse()
    return tasks


def instantiate(rule, found, use, mark):
    """The instance of the template of a rule for what its variables were given.

    The use introduces what stands in the template, and the mark is added to the names.
    """
    top = []
    # A node, what the variables in it were given, and the list to which the instance goes.
    tasks = [(rule.template, found, top)]
    while tasks:
        (kind, worth), given, out = tasks.pop()
        if kind == "variable":
            out.append(given[worth])
        elif kind == "int":
            out.append(Integer(worth, use))
        elif kind == "name":
            out.append(Name(worth.text, worth.marks + (mark,), use, worth.index))
        else:
            inner = []
            out.append(Group(inner, (), use))
            tasks.extend(item_instances(worth, given, inner))
    return top[0]


def item_instances(entries, given, out):
    """The tasks for the items of a list, the first instance last."""
    tasks = []
    for node, inside in entries:
        if inside is None:
            tasks.append((node, given, out))
        else:
            tasks.extend([(node, once, out) for once in repetitions_of(inside, given)])
    tasks.reverse()
    return tasks


def repetitions_of(inside, given):
    """What the variables in a repeated item were given, for each repetition."""
    counts = [len(given[number]) for number in inside]
    if min(counts) != max(counts):
        raise MatchError("the variables of a repeated item have unequal repetitions")
    return [{number: given[number][at] for number in inside} for at in range(counts[0])]
