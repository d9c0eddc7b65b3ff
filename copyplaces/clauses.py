"""Clauses: sets of labels of which every safe copying has one [12, 13]."""

from copyplaces.errors import NotAClause, NotBreaking
from copyplaces.programs import MOST_LABEL
from copyplaces.safety import is_safe
from copyplaces.walks import walk


class Ties:
    """The bonds and reasons along a run by sharing."""

    def __init__(self, copying):
        self.copying = copying
        # A pair of names has a bond just while they share a cell.
        self.bond_of = {}
        self.reason_of = {}

    def do(self, statement):
        """Do a statement that is passed; a spot changes nothing."""
        if statement[0] == "fresh":
            self._part(statement[1])
            self.reason_of.pop(statement[1], None)
        elif statement[0] == "give":
            _, label, x, y = statement
            self._give(label, x, y)
        elif statement[0] == "change":
            _, label, x, _ = statement
            if label in self.copying:
                self._part(x)
            else:
                self._change(label, x)

    def _give(self, label, x, y):
        self._part(x)
        if label not in self.copying:
            for z, labels in self._sharing(y):
                self.bond_of[_pair(x, z)] = with_label(labels, label)
            self.bond_of[_pair(x, y)] = (label,)
        self.reason_of.pop(x, None)
        if y in self.reason_of:
            self.reason_of[x] = self.reason_of[y]

    def _change(self, label, x):
        for z, labels in self._sharing(x):
            tied = with_label(labels, label)
            # A name that is stale stays so for the reason for which it became so.
            self.reason_of.setdefault(z, tied)
            self.bond_of[_pair(x, z)] = tied

    def _part(self, x):
        """Take the bonds of x away."""
        self.bond_of = {pair: self.bond_of[pair] for pair in self.bond_of if x not in pair}

    def _sharing(self, x):
        """Return a list of pairs: each name that shares with x, and its bond with x."""
        return [(z, labels) for pair, labels in self.bond_of.items() if x in pair
                for z in pair if z != x]


def bonds(program, copying, ways):
    """Return a dict from each pair of names that share behind the ways to their bond."""
    ties = _ties_behind(program, copying, ways)
    return {pair: ties.bond_of[pair] for pair in sorted(ties.bond_of)}


def reasons(program, copying, ways):
    """Return a dict from each name that is stale behind the ways to its reason."""
    ties = _ties_behind(program, copying, ways)
    return {x: ties.reason_of[x] for x in sorted(ties.reason_of)}


def read_clause(program, copying, ways):
    """Return the reason of the name at the first look that shows something else."""
    steps, _ = walk(program, ways)
    ties = Ties(copying)
    for _, statement in steps:
        # A look shows something else just if its name is stale, and so has a reason.
        if statement[0] == "look" and statement[1] in ties.reason_of:
            return ties.reason_of[statement[1]]
        ties.do(statement)
    raise NotBreaking()


def is_clause(program, some):
    """Return whether every safe copying has a label of the copying some."""
    # More copies break nothing: if all labels but these are not safe, no fewer are.
    return not is_safe(program, labels_besides(some))


def thinned(program, some):
    """Return what is left of the clause behind leaving out labels, ascending, where that can be."""
    if not is_clause(program, some):
        raise NotAClause(some)
    left = some
    for label in some:
        fewer = tuple([other for other in left if other != label])
        if is_clause(program, fewer):
            left = fewer
    return left


def labels_besides(some):
    """Return the copying of all labels that are not in the copying some."""
    return tuple([label for label in range(MOST_LABEL + 1) if label not in some])


def with_label(labels, label):
    """Return the ascending tuple of the labels and one more, which may be among them."""
    return tuple(sorted(set(labels + (label,))))


def meets(one, other):
    """Return whether the two have a label in common."""
    return any([label in other for label in one])


def _ties_behind(program, copying, ways):
    steps, _ = walk(program, ways)
    ties = Ties(copying)
    for _, statement in steps:
        ties.do(statement)
    return ties


def _pair(x, y):
    return (min(x, y), max(x, y))
