"""A desk: a program and a store that change, and can be changed back."""

from firstmet.alikes import parting
from firstmet.errors import NothingDone, Unlike
from firstmet.moves import moved
from firstmet.running import check_run, run


class Desk:
    """A program with a store, both as the deeds that were done left them."""

    def __init__(self, program, store):
        check_run(program, store)
        self._program = program
        self._store = store
        # What there was ahead of each deed that can be taken back: tuples of a program and a store.
        self._ahead = ()

    @property
    def program(self):
        """The program as it is now."""
        return self._program

    @property
    def store(self):
        """The store as it is now."""
        return self._store

    def put(self, name, row):
        """Put one more row into the table."""
        self._become(self._program, self._store.with_row(name, row))

    def take(self, name, at):
        """Take the row with this index out of the table."""
        self._become(self._program, self._store.without_row(name, at))

    def move(self, move):
        """Make a right move."""
        behind = moved(self._program, move)
        store = parting(self._program, behind)
        if store is not None:
            raise Unlike(store)
        self._become(behind, self._store)

    def _become(self, program, store):
        """Have this program and this store from now on."""
        self._ahead = (*self._ahead, (self._program, self._store))
        self._program = program
        self._store = store

    def undo(self):
        """Take back the last deed that is not yet taken back."""
        if self._ahead == ():
            raise NothingDone()
        self._program, self._store = self._ahead[-1]
        self._ahead = self._ahead[:-1]

    def answer(self):
        """The list of the keys of the answer with their sums."""
        return run(self._program, self._store)

    def changes(self, name, row):
        """What putting this row would change: the new keys, those that are gone, and those with other sums."""
        store = self._store.with_row(name, row)
        ahead = dict(run(self._program, self._store))
        behind = dict(run(self._program, store))
        new = [key for key in behind if key not in ahead]
        gone = [key for key in ahead if key not in behind]
        other = [(key, ahead[key], behind[key]) for key in ahead if key in behind and ahead[key] != behind[key]]
        return (new, gone, other)

    def trying(self, deed):
        """What the deed returns of this desk; all that it did is taken back."""
        program, store, ahead = self._program, self._store, self._ahead
        try:
            return deed(self)
        finally:
            self._program, self._store, self._ahead = program, store, ahead
