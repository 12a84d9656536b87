"""The five kinds of steps, and rows of them. No step is changed once it's made."""

HUNK = 0
SWAP = 1
ADDED = 2
REMOVED = 3
MOVED = 4


class Hunk:
    def __init__(self, name, place, old, new):
        self.name = name
        self.place = place
        self.old = old
        self.new = new

    def names(self):
        return [self.name]

    def as_numbers(self):
        return [HUNK, self.name, self.place, len(self.old)] + self.old + [len(self.new)] + self.new

    def fits(self, tree):
        if self.name not in tree:
            return False
        tokens = tree[self.name]
        # A slice from beyond the end is empty, so that a hunk without old tokens would seem to fit there.
        return self.place <= len(tokens) and tokens[self.place:self.place + len(self.old)] == self.old

    def applied(self, tree):
        tokens = tree[self.name]
        after = dict(tree)
        after[self.name] = tokens[:self.place] + self.new + tokens[self.place + len(self.old):]
        return after

    def turned(self):
        return Hunk(self.name, self.place, self.new, self.old)

    def inside(self, name):
        return Hunk(name, self.place, self.old, self.new)

    def shifted(self, lower, higher):
        return Hunk(self.name, self.place - lower + higher, self.old, self.new)


class Swap:
    def __init__(self, name, one, other):
        self.name = name
        self.one = one
        self.other = other

    def names(self):
        return [self.name]

    def as_numbers(self):
        return [SWAP, self.name, self.one, self.other]

    def fits(self, tree):
        return self.name in tree

    def applied(self, tree):
        after = dict(tree)
        after[self.name] = self.swapped(tree[self.name])
        return after

    def turned(self):
        return self

    def inside(self, name):
        return Swap(name, self.one, self.other)

    def swapped(self, tokens):
        return [self.instead_of(token) for token in tokens]

    def instead_of(self, token):
        if token == self.one:
            return self.other
        if token == self.other:
            return self.one
        return token


class Added:
    def __init__(self, name):
        self.name = name

    def names(self):
        return [self.name]

    def as_numbers(self):
        return [ADDED, self.name]

    def fits(self, tree):
        return self.name not in tree

    def applied(self, tree):
        after = dict(tree)
        after[self.name] = []
        return after

    def turned(self):
        return Removed(self.name)


class Removed:
    def __init__(self, name):
        self.name = name

    def names(self):
        return [self.name]

    def as_numbers(self):
        return [REMOVED, self.name]

    def fits(self, tree):
        return self.name in tree and len(tree[self.name]) == 0

    def applied(self, tree):
        after = dict(tree)
        after.pop(self.name)
        return after

    def turned(self):
        return Added(self.name)


class Moved:
    def __init__(self, old_name, new_name):
        self.old_name = old_name
        self.new_name = new_name

    def names(self):
        return [self.old_name, self.new_name]

    def as_numbers(self):
        return [MOVED, self.old_name, self.new_name]

    def fits(self, tree):
        return self.old_name in tree and self.new_name not in tree

    def applied(self, tree):
        after = dict(tree)
        after[self.new_name] = after.pop(self.old_name)
        return after

    def turned(self):
        return Moved(self.new_name, self.old_name)


def row_applied(tree, row):
    for step in row:
        tree = step.applied(tree)
    return tree


def row_turned(row):
    return [step.turned() for step in reversed(row)]


def row_numbers(row):
    numbers = [len(row)]
    for step in row:
        numbers.extend(step.as_numbers())
    return numbers
