"""The states of a flow by numbers, with what leads from one to another."""

from surespan.flows import Flow


class FlowStates:
    """The states of the flow of a regular tree in a mode, numbered as they are first met; raises NotRegular."""

    def __init__(self, tree, mode):
        self.flow = Flow(tree, mode)
        self.met = []
        self.numbers = {}
        # For each state and cell the number of the state behind it, and the origins of the lanes there.
        self.numbers_behind = {}
        self.origins = {}
        self.results = {}

    def number_of(self, state):
        """Return the number of a state; number it if it is new."""
        if state not in self.numbers:
            self.numbers[state] = len(self.met)
            self.met.append(state)
        return self.numbers[state]

    def target(self, number, cell):
        """Return the number of the state behind a cell."""
        key = (number, cell)
        if key not in self.numbers_behind:
            self.numbers_behind[key] = self.number_of(self.flow.after(self.met[number], cell)[0])
        return self.numbers_behind[key]

    def step(self, number, cell):
        """Return the number of the state behind a cell, and the origins of its lanes."""
        key = (number, cell)
        # Whoever wants to know all states does not need the origins; so `target` does not keep them.
        if key not in self.origins:
            state, self.origins[key] = self.flow.after(self.met[number], cell)
            self.numbers_behind[key] = self.number_of(state)
        return self.numbers_behind[key], self.origins[key]

    def result(self, number):
        """Return what `Flow.result` says of a state."""
        if number not in self.results:
            self.results[number] = self.flow.result(self.met[number])
        return self.results[number]

    def lanes_of(self, number):
        """Return the tuple of the lanes of a state."""
        return self.met[number][2]
