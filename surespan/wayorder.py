"""The order in which the ways of a plan go through its tasks while they read nothing.

A state is a pair (task, still): `still` tells whether an iteration that must move has begun at this very index. For
the tasks that read a sign or end a way this makes no difference, and it is False.
"""

from surespan.plans import followers


def ordered_states(plan):
    """Return the list of the states of a plan; each comes before all to which it leads while nothing is read."""
    tasks = plan.tasks
    left = []
    met = {}
    firsts = [plan.first]
    while firsts:
        stack = [(state_of(tasks, firsts.pop(), False), False)]
        while stack:
            state, is_done = stack.pop()
            if is_done:
                left.append(state)
            elif state not in met:
                met[state] = True
                stack.append((state, True))
                stack.extend([(after, False) for after in states_behind(tasks, state)])
                if tasks[state[0]][0] == "set":
                    firsts.append(tasks[state[0]][-1])
    # A state is left when all to which it leads have been left.
    return left[::-1]


def state_of(tasks, number, still):
    """Return the state of a task with this number."""
    return number, still and tasks[number][0] not in ("set", "end")


def states_behind(tasks, state):
    """Return the list of the states to which a state leads while nothing is read, one for each way to do so."""
    number, still = state
    task = tasks[number]
    if task[0] in ("set", "end") or (task[0] == "moved" and still):
        return []
    return [state_of(tasks, after, still or task[0] == "begin") for after in followers(task)]
