"""The instances of a tree, and how their worths come about."""

MODULUS = 4294967296


def reads_in(expression):
    """Return the list of the pairs of a place and a name that an expression reads."""
    if expression[0] == "num":
        return []
    if expression[0] == "of":
        return [expression[1:]]
    return [pair for part in expression[1:] for pair in reads_in(part)]


class Sheet:
    """The worths of the instances of a tree, as they come about.

    An instance is (index of a node in the tree, name); that of a leaf is its index and "worth".
    """

    def __init__(self, rules, names, equations, tree):
        self.rules = rules
        self.names = names
        self.expressions = [{target: expression for target, expression in row} for row in equations]
        self.tree = tree
        self.parts = {}
        self.homes = {}
        self.worths = {}
        self.find_parts()

    def find_parts(self):
        """Note for each node the indices of its parts, and for each part its home: its node, and its place there."""
        done = []
        for at in range(len(self.tree) - 1, -1, -1):
            if not isinstance(self.tree[at], str):
                many = len(self.rules[self.tree[at]][1])
                self.parts[at] = done[len(done) - many:][::-1]
                del done[len(done) - many:]
                for place, part in enumerate(self.parts[at]):
                    self.homes[part] = (at, place + 1)
            done.append(at)

    def names_at(self, at):
        """Return the pair of the ups and downs of the node with an index."""
        return self.names[self.rules[self.tree[at]][0]]

    def give(self, leaves, downs):
        """Take the worths of the leaves and of the downs of the first node."""
        indices = [at for at, item in enumerate(self.tree) if isinstance(item, str)]
        for at, worth in zip(indices, leaves):
            self.worths[at, "worth"] = worth
        for name, worth in zip(self.names_at(0)[1], downs):
            self.worths[0, name] = worth

    def first_ring(self):
        """Find the worths of all instances; return a ring instead if there is one."""
        for at in self.parts:
            ups, downs = self.names_at(at)
            for name in ups + downs:
                ring = self.settle((at, name))
                if ring is not None:
                    return ring
        return None

    def settle(self, first):
        """Find the worth of an instance; return a ring instead if it leads to one."""
        path = [first]
        places = {first: 0}
        while path:
            instance = path[-1]
            missing = self.missing_for(instance)
            if missing is None:
                if instance not in self.worths:
                    home, expression = self.equation(instance)
                    self.worths[instance] = self.worth_of(home, expression)
                path.pop()
            elif missing in places:
                return tuple(path[places[missing]:])
            else:
                places[missing] = len(path)
                path.append(missing)
        return None

    def equation(self, instance):
        """Return the node whose rule has the equation of an instance, and its expression."""
        at, name = instance
        if name in self.names_at(at)[0]:
            return at, self.expressions[self.tree[at]][0, name]
        home, place = self.homes[at]
        return home, self.expressions[self.tree[home]][place, name]

    def missing_for(self, instance):
        """Return the first instance that an instance reads and that has no worth yet, or None."""
        if instance in self.worths:
            return None
        home, expression = self.equation(instance)
        for place, name in reads_in(expression):
            other = self.read_from(home, place, name)
            if other not in self.worths:
                return other
        return None

    def read_from(self, home, place, name):
        """Return the instance that is read by a place and a name in an equation of a node's rule."""
        return (home if place == 0 else self.parts[home][place - 1], name)

    def worth_of(self, home, expression):
        """Return the worth of an expression of a node's rule, all that it reads having worths."""
        word = expression[0]
        if word == "num":
            return expression[1]
        if word == "of":
            return self.worths[self.read_from(home, expression[1], expression[2])]
        worths = [self.worth_of(home, part) for part in expression[1:]]
        if word == "add":
            return (worths[0] + worths[1]) & (MODULUS - 1)
        if word == "sub":
            return (worths[0] - worths[1]) & (MODULUS - 1)
        if word == "mul":
            return (worths[0] * worths[1]) & (MODULUS - 1)
        if word == "less":
            return 1 if worths[0] < worths[1] else 0
        return worths[1] if worths[0] != 0 else worths[2]

    def told(self):
        """Return the tuple of the worths of all items of the tree."""
        found = []
        for at, item in enumerate(self.tree):
            if isinstance(item, str):
                found.append(self.worths[at, "worth"])
            else:
                ups, downs = self.names_at(at)
                found.append((self.worths_at(at, downs), self.worths_at(at, ups)))
        return tuple(found)

    def worths_at(self, at, names):
        """Return the tuple of the worths that a node has for some names."""
        return tuple([self.worths[at, name] for name in names])
