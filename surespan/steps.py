"""Steps for a machine that finds the ways of a tree by backtracking."""

from surespan.trees import must_read


def compile_steps(tree):
    """Return the steps of a tree as a tuple."""
    writer = StepWriter()
    writer.write(tree, 0)
    writer.steps.append(("accept",))
    return tuple(writer.steps)


class StepWriter:
    """Writes steps one behind the other.

    The steps of a tree begin where they stand and go on behind its last step. They use the slots from `slot` on:
    the slots below it hold what the groups and the iterations around the tree have stored.
    """

    def __init__(self):
        self.steps = []

    def leave_room(self):
        """Leave room for a step whose target is not known yet; return its number."""
        self.steps.append(None)
        return len(self.steps) - 1

    def write(self, tree, slot):
        """Write the steps of a tree."""
        kind = tree[0]
        if kind == "set":
            self.steps.append(("sign", tree[1]))
        elif kind == "seq":
            for part in tree[1]:
                self.write(part, slot)
        elif kind == "alt":
            self.write_alt(tree[1], slot)
        elif kind == "repeat":
            self.write_repeat(tree, slot)
        elif kind == "group":
            self.steps.append(("store", slot))
            self.write(tree[2], slot + 1)
            self.steps.append(("close", slot, tree[1]))
        elif kind == "look":
            self.steps.append(tree[:3] + (compile_steps(tree[3]),))
        elif kind != "empty":
            # An edge and a same are steps themselves.
            self.steps.append(tree)

    def write_alt(self, branches, slot):
        """Write the steps of a choice between branches."""
        jumps = []
        for branch in branches[:-1]:
            fork = self.leave_room()
            self.write(branch, slot)
            jumps.append(self.leave_room())
            self.steps[fork] = ("fork", fork + 1, len(self.steps))
        self.write(branches[-1], slot)
        for jump in jumps:
            self.steps[jump] = ("jump", len(self.steps))

    def write_repeat(self, tree, slot):
        """Write the steps of a repeat: the least iterations, and then a fork before each further one."""
        body, least, most, lazy = tree[1:]
        for _ in range(least):
            self.write(body, slot)
        forks = []
        for _ in range(1 if most is None else most - least):
            forks.append(self.leave_room())
            self.write_iteration(body, slot)
        if most is None:
            self.steps.append(("jump", forks[0]))
        end = len(self.steps)
        for fork in forks:
            self.steps[fork] = ("fork", end, fork + 1) if lazy else ("fork", fork + 1, end)

    def write_iteration(self, body, slot):
        """Write the steps of an iteration that must end after the index where it began."""
        if must_read(body):
            self.write(body, slot)
        else:
            self.steps.append(("store", slot))
            self.write(body, slot + 1)
            self.steps.append(("moved", slot))
