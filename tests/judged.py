"""A second telling of facts, safe copyings and certificates, for tests to compare with.

Facts pass through sets of signs, spots are found by going on from block to block, and
whether ways break is told by the runs of tests/second.py. Of the package only
require_program is used, for the programs of claims.
"""

from itertools import combinations

from copyplaces.errors import InvalidProgram
from copyplaces.programs import require_program
from tests.second import SPOT_WORDS, Run, any_copying, tangled_program

LABELS = (0, 1, 2, 3, 4, 5, 6, 7)
EVEN = (1,) * 8


def all_copyings(labels=LABELS):
    return [some for many in range(len(labels) + 1) for some in combinations(labels, many)]


def others(some):
    return tuple(label for label in LABELS if label not in some)


def joined(signs, statement, copying):
    """The signs behind a statement, each of the rules of point 9 in turn."""
    word, *rest = statement
    if word == "fresh":
        return {sign for sign in signs if rest[0] not in sign[1:]}
    copies = rest[0] in copying
    behind = {sign for sign in signs if sign[0] == "reached" or sign[0] == "share" and rest[1] not in sign[1:]}
    if word == "give":
        x, y = rest[1:]
        behind |= {sign for sign in signs if sign[0] == "stale" and sign[1] != x}
        behind |= {("stale", x) for sign in signs if sign == ("stale", y)}
        if not copies:
            for sign in signs:
                if sign == ("reached",):
                    behind.add(("share",) + tuple(sorted((x, y))))
                for z in sign[1:]:
                    if sign[0] == "share" and y in sign and x not in sign[1:] and z != y:
                        behind.add(("share",) + tuple(sorted((x, z))))
        return behind
    x = rest[1]
    behind |= {sign for sign in signs if sign[0] == "stale"}
    if not copies:
        for sign in signs:
            if sign[0] == "share" and x in sign[1:]:
                behind |= {sign, ("stale", sum(sign[1:]) - x)}
    return behind


class Graph:
    """The spots of a program with what is passed behind their ways, and what facts do."""

    def __init__(self, program):
        self.program = program
        self.names = program[0]
        self.numbers = Run(program, (), ()).numbers
        self.spots = len(self.numbers)
        self.ways = {}
        self.looks = {}
        self.begin = self.enter(program[1], (), 0, lambda: ((), None))
        passed = [self.begin[0]] + [passing[0] for told in self.ways.values() for passing in told]
        self.labels = {row[1] for rows in passed for row in rows if row[0] in ("give", "change")}

    def enter(self, block, path, at, after):
        for index in range(at, len(block)):
            if block[index][0] in SPOT_WORDS:
                here = path + (index,)
                self.meet(block[index], here, lambda: self.enter(block, path, index + 1, after))
                return block[at:index], self.numbers[here]
        passed, spot = after()
        return block[at:] + passed, spot

    def meet(self, statement, here, behind):
        spot = self.numbers[here]
        if spot in self.ways:
            return
        self.ways[spot] = []
        if statement[0] == "choose":
            told = [self.enter(inner, here + (which,), 0, behind) for which, inner in enumerate(statement[1])]
        elif statement[0] == "loop":
            told = [self.enter(statement[1], here + (0,), 0, lambda: ((), spot)), behind()]
        else:
            told = [behind()]
            self.looks[spot] = statement[1]
        self.ways[spot] = told

    def behind(self, signs, passing, copying):
        passed, spot = passing
        for statement in passed:
            signs = joined(signs, statement, copying)
        return {(spot,) + sign for sign in signs} if spot is not None else set()

    def start(self, copying):
        return self.behind({("reached",)}, self.begin, copying)

    def leads(self, copying, fact):
        """For each way of the fact's spot what it leads to."""
        return [self.behind({fact[1:]}, passing, copying) for passing in self.ways[fact[0]]]

    def facts(self, copying):
        found = set()
        level = self.start(copying)
        while level:
            found |= level
            level = {told for fact in level for led in self.leads(copying, fact) for told in led} - found
        return found

    def stale_look(self, fact):
        return fact[1] == "stale" and self.looks.get(fact[0]) == fact[2]

    def safe(self, copying):
        return not any(self.stale_look(fact) for fact in self.facts(copying))

    def possible(self, fact):
        match fact:
            case (spot, "reached"):
                numbers = ()
            case (spot, "share", x, y):
                numbers = (x, y)
            case (spot, "stale", x):
                numbers = (x,)
            case _:
                return False
        if type(fact) is not tuple or type(spot) is not int or any(type(x) is not int for x in numbers):
            return False
        return (spot in range(self.spots) and all(x in range(self.names) for x in numbers)
                and list(numbers) == sorted(set(numbers)))

    def table(self, value):
        return (type(value) is tuple and all(map(self.possible, value))
                and list(value) == sorted(set(value)))


def least_of(program):
    """The least copyings and the least clauses, by trying all copyings."""
    graph = Graph(program)
    # Runs are the same for two copyings that have the same labels that stand, so one of them is tried.
    told = {copying: graph.safe(copying) for copying in all_copyings(sorted(graph.labels))}
    safe = [copying for copying in all_copyings() if told[tuple(p for p in copying if p in graph.labels)]]
    clauses = [some for some in all_copyings() if some and all(set(some) & set(copying) for copying in safe)]
    return tuple(tuple(sorted(one for one in rows if not any(set(other) < set(one) for other in rows)))
                 for rows in (safe, clauses))


def breaks(program, copying, ways):
    run = Run(program, copying, ways)
    return run.shown != run.shown_shared


def is_numbers(value, most):
    return type(value) is tuple and all(type(one) is int and 0 <= one <= most for one in value)


def is_copying(value):
    return is_numbers(value, 7) and list(value) == sorted(set(value))


def is_claim(value):
    if type(value) is not tuple or len(value) != 2:
        return False
    match value[0]:
        case "safe":
            return is_copying(value[1])
        case "clause":
            return is_copying(value[1]) and value[1] != ()
        case "price":
            return is_numbers(value[1:], 999)
        case "stays":
            return is_program(value[1])
    return False


def is_tree(value, is_content, nodes=8):
    if type(value) is not tuple:
        return False
    match value:
        case ("leaf", content):
            return is_content(content)
        case ("node", clause, ways, trees):
            return (nodes > 0 and is_copying(clause) and clause != () and is_numbers(ways, 2)
                    and type(trees) is tuple and len(trees) == len(clause)
                    and all(is_tree(tree, is_content, nodes - 1) for tree in trees))
    return False


def is_nothing(value):
    return type(value) is tuple and not value


def is_formed(graph, value):
    if type(value) is not tuple or len(value) != 3 or not is_claim(value[1]):
        return False
    word, (kind, about), told = value
    match (word, kind):
        case ("shown", "safe") | ("broken", "clause"):
            return graph.table(told)
        case ("broken", "safe") | ("shown", "clause"):
            return is_numbers(told, 2)
        case ("shown", "stays"):
            return is_tree(told, graph.table)
        case ("shown", _) | ("broken", _):
            pass
        case _:
            return False
    if type(told) is not tuple:
        return False
    match (word, kind, told):
        case ("shown", "price", (copying, table, tree)) | ("broken", "price", ("less", copying, table) as tree):
            return (is_copying(copying) and graph.table(table)
                    and (word == "broken" or is_tree(tree, is_nothing)))
        case ("broken", "price", ("more", tree)):
            return is_tree(tree, is_nothing)
        case ("broken", "stays", (copying, table, ways)):
            return is_copying(copying) and Graph(about).table(table) and is_numbers(ways, 2)
    return False


def table_faults(graph, copying, table):
    if not graph.start(copying) <= set(table):
        yield ("start",)
    for k, fact in enumerate(table):
        if graph.stale_look(fact):
            yield ("stale", k)
        for way, led in enumerate(graph.leads(copying, fact)):
            if not led <= set(table):
                yield ("step", k, way)


def ways_faults(graph, copying, ways):
    if not breaks(graph.program, copying, ways):
        yield ("ways",)


def tree_faults(graph, tree, place_faults, path=(), chosen=()):
    for fault in place_faults(tree, tuple(sorted(chosen))):
        yield ("tree", path, fault)
    if tree[0] == "node":
        _, clause, ways, trees = tree
        if set(clause) & set(chosen):
            yield ("tree", path, "met")
        for _ in ways_faults(graph, others(clause), ways):
            yield ("tree", path, "ways")
        for k, label in enumerate(clause):
            yield from tree_faults(graph, trees[k], place_faults, path + (k,), chosen + (label,))


def price(copying, prices):
    return sum(prices[label] for label in copying)


def faults(program, certificate, prices):
    """All faults of a certificate, in the order in which they are looked for."""
    graph = Graph(program)
    if not is_formed(graph, certificate):
        yield ("form",)
        return
    word, (kind, about), told = certificate

    def price_places(bound):
        return lambda tree, chosen: ["leaf"] * ((tree[0] == "leaf") != (price(chosen, prices) >= bound))

    if kind in ("safe", "clause"):
        copying = about if kind == "safe" else others(about)
        by_table = (word == "shown") == (kind == "safe")
        yield from table_faults(graph, copying, told) if by_table else ways_faults(graph, copying, told)
    elif kind == "price" and told[0] == "more":
        yield from tree_faults(graph, told[1], price_places(about + 1))
    elif kind == "price":
        copying, table = told[:2] if word == "shown" else told[1:]
        if price(copying, prices) != about if word == "shown" else price(copying, prices) >= about:
            yield ("price",)
        yield from table_faults(graph, copying, table)
        if word == "shown":
            yield from tree_faults(graph, told[2], price_places(about))
    elif word == "shown":
        yield from tree_faults(Graph(about), told, lambda tree, chosen: (
            table_faults(graph, chosen, tree[1]) if tree[0] == "leaf" else ()))
    else:
        yield from table_faults(Graph(about), told[0], told[1])
        yield from ways_faults(graph, told[0], told[2])


def fault(program, certificate, prices=EVEN):
    return next(faults(program, certificate, prices), None)


def any_prices(rng):
    return tuple(rng.choice((0, 0, 1, 1, 2, 5, 99)) for _ in range(8))


def is_program(value):
    try:
        require_program(value)
    except InvalidProgram:
        return False
    return True


def any_other(rng, program):
    """Another program: one with a statement more or less, or with nothing in common."""
    names, block = program
    at = rng.randint(0, len(block))
    other = rng.choice((
        (names, block[:at] + block[at + 1:]),
        (names, block[:at] + (("look", rng.randrange(names)),) + block[at:]),
        (4, block[:at] + (("change", rng.randrange(8), rng.randrange(4), 1),) + block[at:]),
        tangled_program(rng)))
    return other if is_program(other) else (names, block[1:])


def any_claims(rng, program, old, prices):
    """Claims of all kinds, each with whether it holds."""
    graph = Graph(program)
    copyings, _ = least_of(program)
    least = min(price(copying, prices) for copying in copyings)
    for copying in [any_copying(rng) for _ in range(3)] + [rng.choice(copyings)]:
        yield ("safe", copying), graph.safe(copying)
        if others(copying):
            yield ("clause", others(copying)), not graph.safe(copying)
    for number in {0, max(0, least - 1), least, least + 1, rng.randrange(1000), 999}:
        yield ("price", number), number == least
    for before in (old, program):
        yield ("stays", before), all(graph.safe(copying) for copying in least_of(before)[0])


def places_in(value, path=()):
    """The paths of all parts of a value."""
    yield path
    if isinstance(value, tuple):
        for k, part in enumerate(value):
            yield from places_in(part, path + (k,))


def part_at(value, path):
    for k in path:
        value = value[k]
    return value


def with_part(value, path, part):
    if not path:
        return part
    return value[:path[0]] + (with_part(value[path[0]], path[1:], part),) + value[path[0] + 1:]


def changed(rng, value):
    """The value with one of its parts, at any depth, changed a little."""
    paths = list(places_in(value))
    path = rng.choice(paths)
    part = part_at(value, path)
    other = [part_at(value, rng.choice(paths)), None, list(part) if isinstance(part, tuple) else [part]]
    if isinstance(part, tuple):
        k = rng.randrange(len(part) + 1)
        other += [part[:k] + part[k + 1:], part[:k] + part[k:k + 1] + part[k:], part[:k], part[::-1], part + (0,)] * 2
    elif isinstance(part, int):
        other += [part + 1, part - 1, rng.randrange(8), bool(part), str(part)] * 2
    elif isinstance(part, str):
        other += ["stale", "reached", "node", "leaf", "shown", "broken", "more", "less", "safe", part + " ", 0]
    return with_part(value, path, rng.choice(other))
