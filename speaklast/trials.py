"""Trials: blocks behind which a run is as it was."""


class Saved:
    """A state of a run, and what was saved before it."""

    def __init__(self, state, earlier):
        self.state = state
        self.earlier = earlier


class Trial:
    """The run goes on in a copy of its state; behind the block the state itself comes back."""

    def __init__(self, run):
        self.run = run
        self.saved = None

    def __enter__(self):
        self.saved = Saved(self.run.state, self.saved)
        self.run.state = self.run.state.copied()
        return self.run

    def __exit__(self, *told):
        self.run.state = self.saved.state
        self.saved = self.saved.earlier
