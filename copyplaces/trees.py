"""Trees of clauses: at each leaf enough is chosen, at each node a clause is shown [16]."""

from copyplaces.clauses import labels_besides, meets, with_label
from copyplaces.facts import facts_of
from copyplaces.least import least_clauses, price_of
from copyplaces.safety import breaking, is_safe


class Tree:
    """A tree of clauses of a program while it is made.

    content_of tells the content of the leaf where these labels are chosen, or None
    where a node is due; some clause must be without a label chosen there.
    """

    def __init__(self, program, content_of):
        self._program = program
        self.content_of = content_of
        # The fewer labels the clauses have, the smaller the tree is.
        self.clauses = sorted(least_clauses(program), key=len)
        self.ways_of = {}
        # Places where the same labels are chosen have the same tree.
        self.tree_at = {}

    def place(self, chosen):
        """Return the tree at a place where these labels are chosen."""
        if chosen not in self.tree_at:
            content_of = self.content_of
            content = content_of(chosen)
            if content is None:
                self.tree_at[chosen] = self._node(chosen)
            else:
                self.tree_at[chosen] = ("leaf", content)
        return self.tree_at[chosen]

    def _node(self, chosen):
        clause = [some for some in self.clauses if not meets(some, chosen)][0]
        trees = tuple([self.place(with_label(chosen, label)) for label in clause])
        return ("node", clause, self._ways(clause), trees)

    def _ways(self, clause):
        """Return ways that show the clause."""
        if clause not in self.ways_of:
            self.ways_of[clause] = breaking(self._program, labels_besides(clause))
        return self.ways_of[clause]


def price_tree(program, prices, bound):
    """Return a tree that no safe copying has a price below the bound."""
    return Tree(program, lambda chosen: () if price_of(chosen, prices) >= bound else None).place(())


def stays_tree(program, old):
    """Return a tree that every copying that is safe for old is safe for the program."""
    return Tree(old, lambda chosen: facts_of(program, chosen) if is_safe(program, chosen) else None).place(())
