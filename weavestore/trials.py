"""Blocks in which a store may be changed, and behind which it is as it was."""


class Trial:
    """A block in which a store may be changed; behind it the store is as it was when the block was entered."""

    def __init__(self, store):
        self.store = store
        self.kept = None

    def __enter__(self):
        store = self.store
        self.kept = store.machine
        store.machine = self.kept.twin()
        return store

    def __exit__(self, kind, value, trace):
        store = self.store
        store.machine = self.kept
