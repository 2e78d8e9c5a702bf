"""Plans: the nodes of a tree as a list of tasks, each linked with the tasks that may follow it.

A task is a tuple. It names a task by its number in the list; the last item of a task says what follows it.

("end",)                           the way ends
("set", signs, after)              a sign of the set is read
("edge", kind, after)              the edge must hold
("look", number, wanted, after)    the look, a number of the plan's list, must hold
("same", name, after)              the captured text is read once more
("choice", firsts)                 goes on with one of several tasks, earlier ones preferred
("begin", after)                   an iteration begins which must not end where it began
("moved", after)                   such an iteration ends
("store", slot, after)             a group begins; the slot is the number of the groups around it
("close", slot, name, after)       a group ends
"""

from surespan.trees import must_read

# The number of the task with which each way ends.
END = 0


class Plan:
    """The tasks of a tree."""

    def __init__(self, tree):
        self.tasks = [("end",)]
        # The pairs (side, body) of the looks, each once.
        self.looks = []
        self.first = self.link(tree, END, 0)

    def put(self, task):
        """Add a task; return its number."""
        self.tasks.append(task)
        return len(self.tasks) - 1

    def link(self, tree, after, slot):
        """Add the tasks of a tree that the task `after` follows; return the number of the first one."""
        kind = tree[0]
        if kind == "empty":
            return after
        if kind == "seq":
            for part in reversed(list(tree[1])):
                after = self.link(part, after, slot)
            return after
        if kind == "alt":
            firsts = [self.link(branch, after, slot) for branch in reversed(list(tree[1]))]
            return self.put(("choice", tuple(firsts[::-1])))
        if kind == "repeat":
            return self.link_repeat(tree, after, slot)
        if kind == "group":
            close = self.put(("close", slot, tree[1], after))
            return self.put(("store", slot, self.link(tree[2], close, slot + 1)))
        if kind == "look":
            return self.put(("look", self.look_number(tree[1], tree[3]), tree[2], after))
        return self.put(tree + (after,))

    def link_repeat(self, tree, after, slot):
        """Add the tasks of a repeat; return the number of the first one."""
        body, least, most = tree[1:4]
        first = after
        if most is None:
            # The last task of an iteration needs the number of the choice before the choice can be made.
            first = self.put(None)
            self.tasks[first] = self.choice(tree, after, first, slot)
        else:
            for _ in range(most - least):
                first = self.put(self.choice(tree, after, first, slot))
        for _ in range(least):
            first = self.link(body, first, slot)
        return first

    def choice(self, tree, after, following, slot):
        """Return the choice between no further iteration and one more, which the task `following` follows."""
        body = tree[1]
        if must_read(body):
            begin = self.link(body, following, slot)
        else:
            moved = self.put(("moved", following))
            begin = self.put(("begin", self.link(body, moved, slot)))
        return ("choice", (after, begin) if tree[4] else (begin, after))

    def look_number(self, side, body):
        """Return the number of a look in the list; put it there if it is new."""
        if (side, body) not in self.looks:
            self.looks.append((side, body))
        return self.looks.index((side, body))


def followers(task):
    """Return the tuple of the numbers of the tasks that may follow a task."""
    if task[0] == "end":
        return ()
    return task[-1] if task[0] == "choice" else task[-1:]


def meeting_tasks(tasks):
    """Return a list that tells for each task whether several tasks lead to it; for the end it is True."""
    counts = [0] * len(tasks)
    counts[END] = 2
    for task in tasks:
        for number in followers(task):
            counts[number] = counts[number] + 1
    return [count > 1 for count in counts]


def needed_marks(tasks):
    """Return a list with the tuple of the marks that each task needs.

    Whether a way can be brought to an end from a task depends on nothing else that was captured before. A mark
    is ("name", name), for the captured text, or ("slot", slot), for the index at which a group began.
    """
    needed = [()] * len(tasks)
    changed = True
    while changed:
        changed = False
        for number, task in enumerate(tasks):
            below = [mark for after in followers(task) for mark in needed[after]]
            marks = tuple(sorted(set(marks_before(task, below))))
            if marks != needed[number]:
                needed[number] = marks
                changed = True
    return needed


def marks_before(task, below):
    """Return the list of the marks that a task needs if those after it need the marks `below`."""
    kind = task[0]
    if kind == "same":
        return [*below, ("name", task[1])]
    if kind == "store":
        return [mark for mark in below if mark != ("slot", task[1])]
    if kind == "close" and ("name", task[2]) in below:
        others = [mark for mark in below if mark != ("name", task[2])]
        return [("slot", task[1]), *others]
    return below
