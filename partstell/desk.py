"""A desk: a store and a table that are worked on by lines of text."""

from partstell.commands import CHANGES, changed_store, changed_table, read_command, told_lines
from partstell.errors import NoRedo, NoUndo
from partstell.stores import Store
from partstell.tables import Table
from partstell.texts import store_text, table_text


class Desk:
    """A desk over a space; its store and its table are empty at first."""

    # A store of the desk is never changed: each change makes another one. So the pairs of
    # store and table in `past` and `future` stay as they are, and desks may share them.
    def __init__(self, space):
        self.space = space
        self.now = (Store(space), Table(space))
        self.past = []
        self.future = []

    def tell(self, line):
        """Do what a line says, and give the list of strings that answers it."""
        command, given = read_command(self.space, line)
        store, table = self.now
        if command in CHANGES:
            changed = changed_store(store, command, given), changed_table(table, command, given)
            self.past.append(self.now)
            self.future = []
            self.now = changed
            return []
        if command == "undo":
            self.step_back()
            return []
        if command == "redo":
            self.step_forth()
            return []
        return told_lines(store, table, command, given)

    def step_back(self):
        """Take back the last change."""
        if len(self.past) == 0:
            raise NoUndo()
        self.future.append(self.now)
        self.now = self.past.pop()

    def step_forth(self):
        """Make the change again that was taken back last."""
        if len(self.future) == 0:
            raise NoRedo()
        self.past.append(self.now)
        self.now = self.future.pop()

    def rehearse(self, lines):
        """Give the list of what each line would return; the desk stays as it is."""
        trial = Desk(self.space)
        trial.now = self.now
        trial.past = list(self.past)
        trial.future = list(self.future)
        return [trial.tell(line) for line in lines]

    def store_now(self):
        """Give a copy of the store."""
        return self.now[0].copy()

    def table_now(self):
        """Give the table."""
        return self.now[1]

    def journal(self):
        """Give the list of lines that make an equal store and an equal table at a new desk."""
        store, table = self.now
        parts = [f"part {line}" for line in store_text(store)]
        return parts + [f"put {line}" for line in table_text(table)]
