"""Bindings of names, and which of them a name refers to. The marks of a name are its scopes."""

from sugartrue.errors import ScopeError

# Stands for the newest scope of a binding that has no scopes.
NO_SCOPE = -1


class Binding:
    """What a name with an index and some scopes means.

    The kind is "form" or "primitive", with the name as its worth, "variable", with its
    number, or "macro", with a Macro.
    """

    def __init__(self, index, scopes, kind, worth):
        self.index = index
        self.scopes = scopes
        self.kind = kind
        self.worth = worth


def contains(outer, scopes):
    """Whether the keys of a dict contain all scopes of a tuple."""
    return all([scope in outer for scope in scopes])


class Bindings:
    def __init__(self):
        # From texts to dicts, from the newest scopes of bindings to these bindings.
        # A binding that a name refers to has its newest scope among those of the name;
        # so only few bindings must be compared with the name.
        self.tables = {}

    def bind(self, name, kind, worth):
        newest = name.marks[-1] if name.marks else NO_SCOPE
        table = self.tables.setdefault(name.text, {})
        table.setdefault(newest, []).append(Binding(name.index, name.marks, kind, worth))

    def candidates(self, name):
        """The bindings of the text of a name whose scopes the name has."""
        table = self.tables.get(name.text, {})
        held = {scope: True for scope in name.marks}
        found = []
        for newest in (NO_SCOPE, *name.marks):
            for binding in table.get(newest, []):
                if contains(held, binding.scopes):
                    found.append(binding)
        return found

    def look_up(self, name):
        """The binding that a name refers to."""
        found = self.candidates(name)
        if not found:
            raise ScopeError(f"{name.text} is not bound")
        best = max(found, key=lambda each: len(each.scopes))
        held = {scope: True for scope in best.scopes}
        for binding in found:
            if not contains(held, binding.scopes):
                raise ScopeError(f"{name.text} has several bindings and none contains all others")
        return best
