"""Trees that accept the same texts as machines."""

from surespan.leastmachine import minimized

# Stand for the beginning and the end of each text, beside the states of a machine.
FIRST = -1
LAST = -2
EMPTY = ("empty",)


def tree_of(machine):
    """Return a plain tree without groups that accepts the same texts as the machine."""
    paths = PathTrees(minimized(machine))
    for _ in range(len(paths.remaining)):
        paths.remove(paths.cheapest())
    return paths.trees.get((FIRST, LAST), ("set", ""))


class PathTrees:
    """Trees for the texts that lead from one state to another one, by way of states that have been removed.

    A pair of states without an entry in `trees` has no such text. As its cost a tree has about the number of its sets.
    """

    def __init__(self, machine):
        self.trees = {}
        self.costs = {}
        self.remaining = live_states(machine)
        for state in self.remaining:
            for cell, target in enumerate(machine.rows[state]):
                if target in self.remaining:
                    self.put((state, target), ("set", machine.cells[cell]), 1)
            if machine.accepting[state]:
                self.put((state, LAST), EMPTY, 0)
        if 0 in self.remaining:
            self.put((FIRST, 0), EMPTY, 0)

    def put(self, pair, tree, cost):
        """Let the texts of one more tree lead from the first state of a pair to the second one."""
        if pair in self.trees:
            tree = choice_of(self.trees[pair], tree)
            cost = 1 if tree[0] == "set" else cost + self.costs[pair]
        self.trees[pair] = tree
        self.costs[pair] = cost

    def sources(self, state):
        """Return the list of the other states from which there is a tree to the state."""
        return [pair[0] for pair in self.trees if pair[1] == state and pair[0] != state]

    def targets(self, state):
        """Return the list of the other states to which there is a tree from the state."""
        return [pair[1] for pair in self.trees if pair[0] == state and pair[1] != state]

    def cheapest(self):
        """Return the state whose removal adds the least cost to the trees."""
        costs = [(self.added_cost(state), state) for state in self.remaining]
        return min(costs)[1]

    def added_cost(self, state):
        """Return about how much cost the removal of a state adds to the trees."""
        sources, targets = self.sources(state), self.targets(state)
        coming = sum([self.costs[source, state] for source in sources])
        going = sum([self.costs[state, target] for target in targets])
        staying = self.costs.get((state, state), 0)
        ways = len(sources) * len(targets)
        return coming * (len(targets) - 1) + going * (len(sources) - 1) + staying * (ways - 1)

    def remove(self, state):
        """Remove a state; let the texts that lead by way of it lead on without it."""
        sources, targets = self.sources(state), self.targets(state)
        staying = star_of(self.trees.get((state, state), EMPTY))
        staying_cost = self.costs.get((state, state), 0)
        for source in sources:
            for target in targets:
                tree = chain_of(chain_of(self.trees[source, state], staying), self.trees[state, target])
                cost = self.costs[source, state] + staying_cost + self.costs[state, target]
                self.put((source, target), tree, cost)
        for pair in list(self.trees):
            if state in pair:
                del self.trees[pair]
                del self.costs[pair]
        self.remaining = [other for other in self.remaining if other != state]


def live_states(machine):
    """Return the list of the states from which some text leads to an accepting state."""
    live = [state for state, accepting in enumerate(machine.accepting) if accepting]
    reached = list(live)
    while reached:
        state = reached.pop()
        for source, row in enumerate(machine.rows):
            if state in row and source not in live:
                live.append(source)
                reached.append(source)
    return sorted(live)


def parts_of(tree):
    """Return the tuple of the trees that stand one after another in a tree."""
    if tree == EMPTY:
        return ()
    return tree[1] if tree[0] == "seq" else (tree,)


def tree_of_parts(parts):
    """Return the tree of these trees, one after another."""
    if not parts:
        return EMPTY
    return parts[0] if len(parts) == 1 else ("seq", parts)


def chain_of(tree, other):
    """Return a tree for the texts of the first tree followed by those of the second one."""
    parts = parts_of(tree)
    for part in parts_of(other):
        body = parts_of(part[1]) if is_star(part) else ()
        if body and parts[-len(body):] == body:
            parts = parts[:-len(body)] + (("repeat", part[1], 1, None, False),)
        else:
            parts = parts + (part,)
    return tree_of_parts(parts)


def is_star(tree):
    """Return True if the tree repeats its body any number of times, otherwise False."""
    return tree[0] == "repeat" and tree[2:4] == (0, None)


def star_of(tree):
    """Return a tree for any number of texts of the tree, one after another."""
    if tree == EMPTY:
        return EMPTY
    body = tree[1] if tree[0] == "repeat" else tree
    return ("repeat", body, 0, None, False)


def branches_of(tree):
    """Return the list of the trees between which a tree chooses; texts that are empty have one of their own."""
    if tree[0] == "repeat" and tree[2:4] == (0, 1):
        return [EMPTY, *branches_of(tree[1])]
    return list(tree[1]) if tree[0] == "alt" else [tree]


def choice_of(tree, other):
    """Return a tree for the texts of both trees."""
    branches = []
    for branch in [*branches_of(tree), *branches_of(other)]:
        add_branch(branches, branch)
    others = [branch for branch in branches if branch != EMPTY]
    if not others:
        return EMPTY
    result = others[0] if len(others) == 1 else ("alt", tuple(others))
    return result if len(others) == len(branches) else optional(result)


def add_branch(branches, branch):
    """Add a branch to a list of branches; join it with another one if they have ends in common."""
    for number, other in enumerate(list(branches)):
        if other[0] == "set" and branch[0] == "set":
            branches[number] = ("set", "".join(sorted(set(other[1] + branch[1]))))
            return
        if other == branch:
            return
        joined = with_common_ends(parts_of(other), parts_of(branch))
        if joined is not None and other != EMPTY and branch != EMPTY:
            branches[number] = joined
            return
    branches.append(branch)


def with_common_ends(parts, others):
    """Return a tree for two sequences of trees in which what they begin or end with stands once; None if nothing."""
    limit = min(len(parts), len(others))
    front = 0
    while front < limit and parts[front] == others[front]:
        front = front + 1
    back = 0
    while back < limit - front and parts[-1 - back] == others[-1 - back]:
        back = back + 1
    if front + back == 0:
        return None
    middle = choice_of(
        tree_of_parts(parts[front:len(parts) - back]), tree_of_parts(others[front:len(others) - back]),
    )
    return chain_of(chain_of(tree_of_parts(parts[:front]), middle), tree_of_parts(parts[len(parts) - back:]))


def optional(tree):
    """Return a tree for the texts of the tree and the empty text."""
    if tree[0] == "repeat" and tree[2] == 0:
        return tree
    if tree[0] == "repeat" and tree[2:4] == (1, None):
        return ("repeat", tree[1], 0, None, False)
    return ("repeat", tree, 0, 1, False)
