"""A book: branches, and what is made on them and brought to them."""

from marginwords.errors import NoBranch, NoStrike
from marginwords.joining import joined
from marginwords.kinds import is_word
from marginwords.knowing import branch_names, change_of, known, names_of, tops
from marginwords.making import laid_on, made


class Book:
    """Its WHOLE; the STARTS of the BEGUN branches, under these; the NAMES that are its OWN."""

    def __init__(self):
        self.changes = ()
        self.starts = {}
        self.made_here = []

    def begin(self, branch, other):
        """Begin a branch at the NOW of another one, or at nothing where that is None."""
        if not is_word(branch) or self.has_branch(branch):
            raise NoBranch(branch)
        start = () if other is None else self.now(other)
        self.starts[branch] = start

    def do(self, branch, hand, deed):
        """Make a CHANGE on a branch; its NAME."""
        return self.keep(made(self.now(branch), branch, hand, deed))

    def take_in(self, branch, hand, other):
        """Make the join by which a branch takes another one in; its NAME."""
        # Both are PARTS of the WHOLE, so they can be joined.
        both = joined(self.now(branch), self.now(other))
        return self.keep(made(both, branch, hand, ("join",)))

    def bring(self, ledger):
        """Join a LEDGER to the WHOLE; the NAMES that came, rising."""
        whole = joined(self.changes, ledger)
        here = names_of(self.changes)
        self.changes = whole
        return tuple(name for name in names_of(whole) if name not in here)

    def strike(self):
        """Take the CHANGE that was made last out again; its NAME."""
        if self.made_here == []:
            raise NoStrike("none")
        name = self.made_here[-1]
        if name not in tops(self.changes):
            raise NoStrike("known")
        if any(name in names_of(start) for start in self.starts.values()):
            raise NoStrike("begun")
        self.made_here.pop()
        self.changes = tuple(change for change in self.changes if change[0] != name)
        return name

    def branches(self):
        """The branches IN the book, rising."""
        return tuple(sorted(set(list(self.starts) + [name[1] for name in names_of(self.changes)])))

    def now(self, branch):
        """The NOW of a branch."""
        if not self.has_branch(branch):
            raise NoBranch(branch)
        names = branch_names(self.changes, branch)
        if names == ():
            return self.starts[branch]
        return self.view(names[-1])

    def whole(self):
        """The LEDGER of all CHANGES."""
        return self.changes

    def own(self):
        """The NAMES of the CHANGES that were made here, in the order of making."""
        return tuple(self.made_here)

    def view(self, name):
        """The LEDGER of the CHANGE of this NAME and of what is KNOWN to it."""
        change = change_of(self.changes, name)
        return known(self.changes, name) + (change,)

    def has_branch(self, branch):
        """Whether any thing is a branch IN the book."""
        return is_word(branch) and (branch in self.starts or branch_names(self.changes, branch) != ())

    def keep(self, change):
        """Take a CHANGE that was made here into the WHOLE; its NAME."""
        self.changes = laid_on(self.changes, change)
        self.made_here.append(change[0])
        return change[0]
