"""A keeper: a machine and a saying that go on by deeds, with a book of what has been going on."""

from fairtrees.bounds import BOOK, FREE
from fairtrees.deeds import after
from fairtrees.errors import Broken, Full, Nothing, TreeError
from fairtrees.telling import tell


class Keeper:
    """Keeps a machine and where a saying holds, and can undo what was done."""

    def __init__(self, machine, saying, *, wishes=FREE):
        self.saying = saying
        self.wishes = wishes
        self.now = (machine, tell(machine, saying, wishes=wishes))
        self.ahead = []
        self.entries = []

    def machine(self):
        """Tell the machine as it is now."""
        return self.now[0]

    def sets(self):
        """Tell for each row of the saying the set of the standings at which it holds now."""
        return self.now[1]

    def do(self, deed):
        """Do a deed and tell its changes; what is refused changes nothing."""
        self.ask_for_room()
        machine = after(self.now[0], deed)
        self.entries.append(deed)
        return self.go_on(machine)

    def batch(self, deeds):
        """Do all these deeds or none, and tell the changes; Broken where one of them is refused."""
        self.ask_for_room()
        machine = self.now[0]
        done = []
        try:
            for deed in deeds:
                machine = after(machine, deed)
                done.append(deed)
        except TreeError as refusal:
            self.entries.extend([("begin",), *done, ("undone",), ("end",)])
            raise Broken("a deed of the batch was refused", len(done)) from refusal
        self.entries.extend([("begin",), *done, ("end",)])
        return self.go_on(machine)

    def back(self):
        """Undo what was done last and is not undone yet, and tell the changes; Nothing where there is none."""
        self.ask_for_room()
        if len(self.ahead) == 0:
            raise Nothing("nothing is left to undo")
        self.entries.append(("back",))
        sets = self.now[1]
        self.now = self.ahead.pop()
        return changes(sets, self.now[1])

    def book(self):
        """Tell what has been going on."""
        return tuple(self.entries)

    def __len__(self):
        return len(self.ahead)

    def ask_for_room(self):
        """Refuse with Full where the book has no room for more."""
        if len(self.entries) >= BOOK:
            raise Full("the book is full")

    def go_on(self, machine):
        """Let the machine be this one from now on, so that it can be undone, and tell the changes."""
        sets = self.now[1]
        self.ahead.append(self.now)
        self.now = (machine, tell(machine, self.saying, wishes=self.wishes))
        return changes(sets, self.now[1])


def changes(old, new):
    """Tell each row and standing whose truth is not what it was, rising, with what it is now."""
    told = []
    for row, (one, other) in enumerate(zip(old, new)):
        told.extend([(row, standing, standing in other) for standing in sorted(set(one) ^ set(other))])
    return tuple(told)
