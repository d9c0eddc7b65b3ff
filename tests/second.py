"""A second telling of runs, for tests to compare with: blocks are run as they stand.

Cells are lists of Python: names that share hold one and the same list. Nothing of the
package is used, and no flow is worked out.
"""

SPOT_WORDS = ("look", "choose", "loop")


class Stop(Exception):
    """The run ends at a spot, with what is told of its end."""


class Run:
    """A run by a list of ways, with real copies and by sharing side by side."""

    def __init__(self, program, copying, ways):
        names, block = program
        self.copying = copying
        self.taken = tuple(ways)
        self.ways = list(ways)
        self.numbers = {}
        self.number(block, ())
        self.real = [[] for _ in range(names)]
        self.cells = [[] for _ in range(names)]
        self.shown = []
        self.shown_shared = []
        self.end = ("end",)
        try:
            self.block(block, ())
        except Stop as stop:
            self.end = stop.args

    def number(self, block, path):
        for index, statement in enumerate(block):
            here = path + (index,)
            if statement[0] in SPOT_WORDS:
                self.numbers[here] = len(self.numbers)
            for which, inner in enumerate(self.inner(statement)):
                self.number(inner, here + (which,))

    def inner(self, statement):
        return {"choose": lambda: statement[1], "loop": lambda: statement[1:]}.get(statement[0], lambda: ())()

    def way(self, path, count):
        spot = self.numbers[path]
        if not self.ways:
            raise Stop("open", spot)
        if self.ways[0] not in range(count):
            raise Stop("astray", spot)
        return self.ways.pop(0)

    def block(self, block, path):
        for index, statement in enumerate(block):
            here = path + (index,)
            getattr(self, statement[0])(here, *statement[1:])

    def fresh(self, path, x):
        self.real[x] = []
        self.cells[x] = []

    def give(self, path, label, x, y):
        self.real[x] = list(self.real[y])
        self.cells[x] = list(self.cells[y]) if label in self.copying else self.cells[y]

    def change(self, path, label, x, mark):
        self.real[x].append(mark)
        if label in self.copying:
            self.cells[x] = list(self.cells[x])
        self.cells[x].append(mark)

    def look(self, path, x):
        self.way(path, 1)
        self.shown.append((self.numbers[path], tuple(self.real[x])))
        self.shown_shared.append((self.numbers[path], tuple(self.cells[x])))

    def choose(self, path, blocks):
        which = self.way(path, len(blocks))
        self.block(blocks[which], path + (which,))

    def loop(self, path, block):
        while self.way(path, 2) == 0:
            self.block(block, path + (0,))

    def values(self):
        return tuple(tuple(value) for value in self.real)

    def held(self):
        return tuple(tuple(cell) for cell in self.cells)

    def least(self):
        """For each name the least name with the same cell."""
        return tuple(min(y for y, other in enumerate(self.cells) if other is cell) for cell in self.cells)

    def stale(self):
        return tuple(x for x, cell in enumerate(self.cells) if cell != self.real[x])

    def facts(self):
        """The facts that hold where the run stands open."""
        spot = self.end[1]
        least = self.least()
        told = [(spot, "reached")] + [(spot, "stale", x) for x in self.stale()]
        for y in range(len(least)):
            told.extend((spot, "share", x, y) for x in range(y) if least[x] == least[y])
        return told


def open_runs(program, copying):
    """Runs that stand open, one for each spot with each sharing and staleness that runs come to."""
    found = {}
    level = [()]
    while level:
        further = []
        for ways in level:
            run = Run(program, copying, ways)
            if run.end[0] != "open" or (run.end, run.least(), run.stale()) in found:
                continue
            found[run.end, run.least(), run.stale()] = run
            further.extend(ways + (way,) for way in range(3))
        level = further
    return list(found.values())


def every_fact(program, copying):
    """The facts that some run has, ascending."""
    return tuple(sorted({fact for run in open_runs(program, copying) for fact in run.facts()}))


def possible_facts(program):
    names, _ = program
    spots = len(Run(program, (), ()).numbers)
    for spot in range(spots):
        yield (spot, "reached")
        yield from ((spot, "share", x, y) for y in range(names) for x in range(y))
        yield from ((spot, "stale", x) for x in range(names))


def look_names(program):
    """A dict from the spot of each look to its name."""
    found = {}
    for path, spot in Run(program, (), ()).numbers.items():
        block = program[1]
        for k in range(0, len(path) - 1, 2):
            statement = block[path[k]]
            block = statement[1] if statement[0] == "loop" else statement[1][path[k + 1]]
        if block[path[-1]][0] == "look":
            found[spot] = block[path[-1]][1]
    return found


def any_block(rng, names, left, depth, labels):
    """A block of any statements; left holds how many statements and spots may still come."""
    rows = []
    for _ in range(8 if depth == 1 else rng.choice((0, 1, 1, 2, 3, 4, 8))):
        if left[0] == 0:
            break
        left[0] -= 1
        word = rng.choice(("fresh", "give", "give", "give", "change", "change", "change",
                           "look", "look", "choose", "loop"))
        if word in SPOT_WORDS and (left[1] == 0 or depth == 5 and word != "look"):
            word = "change"
        if word == "give" and names == 1:
            word = "change"
        x, y = rng.sample(range(names), 2) if names > 1 else (0, 0)
        label = rng.choice(labels)
        if word in SPOT_WORDS:
            left[1] -= 1
        if word in ("fresh", "look"):
            rows.append((word, x))
        elif word == "give":
            rows.append((word, label, x, y))
        elif word == "change":
            rows.append((word, label, x, rng.randrange(10)))
        elif word == "choose":
            count = rng.choice((2, 2, 3))
            rows.append((word, tuple([any_block(rng, names, left, depth + 1, labels) for _ in range(count)])))
        else:
            rows.append((word, any_block(rng, names, left, depth + 1, labels)))
    return tuple(rows)


def any_program(rng, statements=40, spots=12):
    """A program of any shape with at most so many statements and spots."""
    names = rng.choice((1, 2, 2, 3, 3, 4, 4))
    labels = rng.sample(range(8), rng.randint(1, 8))
    left = [rng.randint(0, statements), rng.randint(0, spots)]
    return (names, any_block(rng, names, left, 1, labels))


def any_copying(rng):
    return tuple(sorted(rng.sample(range(8), rng.choice((0, 0, 1, 1, 2, 3, 4, 6, 8)))))


class AnyRun(Run):
    """A run that chooses its ways itself, so that it never goes astray."""

    def __init__(self, rng, program, most, leaving):
        self.rng = rng
        self.most = most
        self.leaving = leaving
        self.chosen = []
        Run.__init__(self, program, (), ())

    def loop(self, path, block):
        while self.take(path, 1 if self.rng.random() < self.leaving else 0) == 0:
            self.block(block, path + (0,))

    def way(self, path, count):
        return self.take(path, self.rng.randrange(count))

    def take(self, path, way):
        if len(self.chosen) == self.most:
            raise Stop("open", self.numbers[path])
        self.chosen.append(way)
        return way


def any_ways(rng, program, most, leaving=0.25):
    """Ways of the program; sometimes it goes astray, and sometimes some are left over."""
    ways = AnyRun(rng, program, rng.randint(0, most), leaving).chosen
    if ways and rng.random() < 0.2:
        ways[rng.randrange(len(ways))] = rng.randrange(3)
    if rng.random() < 0.2:
        ways.extend(rng.choices(range(3), k=rng.randint(1, 3)))
    return tuple(ways)


def looping_program(rng):
    """A program with a loop that may have many rounds."""
    labels = rng.sample(range(8), rng.randint(1, 8))
    return (3, (("loop", any_block(rng, 3, [15, 5], 2, labels)), ("look", 2)))


def any_step(rng, names):
    """A give, or a change, with any label."""
    if names > 1 and rng.random() < 0.6:
        x, y = rng.sample(range(names), 2)
        return ("give", rng.randrange(8), x, y)
    return ("change", rng.randrange(8), rng.randrange(names), rng.randrange(10))


def chosen_steps(rows):
    """A block in which one of the statements is done, by choices in one another."""
    if len(rows) == 1:
        return rows
    cut = -(-len(rows) // 3)
    return (("choose", tuple(chosen_steps(rows[k:k + cut]) for k in range(0, len(rows), cut))),)


def tangled_program(rng):
    """A program with many clauses: rounds of chosen gives and changes, and looks behind them."""
    names = rng.choice((2, 3, 3, 4, 4))
    rounds = ()
    # Not more than one of the three has more than three statements to choose from: there may be 12 spots.
    for sizes in ((1, 2, 3, 6), (0, 1, 2, 3), (0, 0, 1, 3)):
        many = rng.choice(sizes)
        if many:
            rounds += chosen_steps(tuple(any_step(rng, names) for _ in range(many)))
    if rng.random() < 0.4:
        rounds += (("look", rng.randrange(names)),)
    block = tuple(any_step(rng, names) for _ in range(rng.randint(0, 3)))
    block += (("loop", rounds),) if rng.random() < 0.8 else rounds
    looks = tuple(("look", x) for x in range(names) if rng.random() < 0.7)
    return (names, (block + looks)[:8])


def pairs_program():
    """A program whose least clauses are all pairs of the eight labels.

    For each label in turn there is a give, a change, or nothing, as the ways choose.
    """
    steps = tuple(("choose", ((("give", p, 1, 0),), (("change", p, 0, p),), ())) for p in range(8))
    return (4, (("choose", (steps, ())), ("look", 1)))
