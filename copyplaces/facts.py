"""Facts: to which spots a run by sharing comes, with what shared and stale [9, 10].

What is said of a spot without its number, ("reached",), ("share", x, y) or
("stale", x), is called a sign here: it is what passes through statements.
"""

from copyplaces.flow import flow, flow_start, flows_of


def start_facts(program, copying):
    """Return the start facts, ascending."""
    return facts_behind([("reached",)], flow_start(program), copying)


def leads(program, copying, fact, way):
    """Return the facts to which the possible fact leads by a way of its spot, ascending."""
    return facts_behind([fact[1:]], flow(program, fact[0], way), copying)


def facts_of(program, copying):
    """Return the facts of the program and the copying, ascending."""
    return tuple(sorted(ways_by_fact(program, copying)))


def ways_to(program, copying, fact):
    """Return ways behind which the fact holds at its spot, or None if there are none."""
    return ways_by_fact(program, copying).get(fact)


def ways_by_fact(program, copying):
    """Return a dict from each fact to shortest ways to it, in the order of their lengths."""
    flows = flows_of(program)
    level = start_facts(program, copying)
    found = {fact: () for fact in level}
    # A shortest chain has no fact twice, so it has fewer ways than there are facts.
    while level:
        further = []
        for fact in level:
            for way, passing in enumerate(flows[fact[0]]):
                for told in facts_behind([fact[1:]], passing, copying):
                    if told not in found:
                        found[told] = found[fact] + (way,)
                        further.append(told)
        level = further
    return found


def facts_behind(signs, passing, copying):
    """Return the facts that the signs give at the next spot, ascending; none if there is no spot."""
    passed, spot = passing
    if spot is None:
        return ()
    for statement in passed:
        signs = sorted({told for sign in signs for told in _given(sign, statement, copying)})
    return tuple([(spot,) + sign for sign in signs])


def _given(sign, statement, copying):
    """Return the list of the signs that one sign gives behind the statement."""
    if statement[0] == "fresh":
        return [] if statement[1] in sign[1:] else [sign]
    if statement[0] == "give":
        return _given_by_give(sign, statement, copying)
    return _given_by_change(sign, statement, copying)


def _given_by_give(sign, statement, copying):
    _, label, x, y = statement
    copies = label in copying
    if sign[0] == "reached":
        return [sign] if copies else [sign, _share(x, y)]
    if x in sign[1:]:
        return []
    if y not in sign[1:]:
        return [sign]
    if sign[0] == "stale":
        # Real copies would not help here: what is copied is stale already.
        return [sign, ("stale", x)]
    return [sign] if copies else [sign, _share(x, _other(sign, y))]


def _given_by_change(sign, statement, copying):
    _, label, x, _ = statement
    if sign[0] != "share" or x not in sign[1:]:
        return [sign]
    return [] if label in copying else [sign, ("stale", _other(sign, x))]


def _share(x, y):
    return ("share", min(x, y), max(x, y))


def _other(sign, x):
    """Return the name that the sign tells to share with x."""
    return sign[2] if sign[1] == x else sign[1]
