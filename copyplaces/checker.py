"""The checker of certificates: what is the first fault of one [17]."""

from copyplaces.claims import is_claim
from copyplaces.clauses import labels_besides, meets, with_label
from copyplaces.forms import is_copying, is_table, is_tree, is_ways
from copyplaces.judge import Judge
from copyplaces.least import price_of
from copyplaces.programs import spot_paths

MOST_NODES = 8


def first_fault(program, certificate, *, prices=(1, 1, 1, 1, 1, 1, 1, 1)):
    """Return None if the value, which may be anything, is a right certificate, else its first fault."""
    if not _is_certificate(program, certificate):
        return ("form",)
    word, claim, told = certificate
    about = claim[1]
    judge = Judge(program)
    if claim[0] == "safe" and word == "shown":
        return judge.fault_of_table(told, about)
    if claim[0] == "safe":
        return _fault_of_ways(judge, told, about)
    if claim[0] == "clause" and word == "shown":
        return _fault_of_ways(judge, told, labels_besides(about))
    if claim[0] == "clause":
        return judge.fault_of_table(told, labels_besides(about))
    if claim[0] == "price":
        return _fault_of_price(judge, about, told, prices)
    if word == "shown":
        return _fault_of_stays_tree(judge, Judge(about), told)
    copying, table, ways = told
    fault = Judge(about).fault_of_table(table, copying)
    return _fault_of_ways(judge, ways, copying) if fault is None else fault


def _is_certificate(program, value):
    """Return whether the value has the form of a certificate."""
    if not isinstance(value, tuple) or len(value) != 3 or not is_claim(value[1]):
        return False
    word, claim, told = value
    if word != "shown" and word != "broken":
        return False
    shown = word == "shown"
    if claim[0] == "price":
        return _is_of_price(program, told, shown)
    if claim[0] == "stays":
        return _is_of_stays(program, claim[1], told, shown)
    if shown == (claim[0] == "safe"):
        return _is_table_of(program, told)
    return is_ways(told)


def _is_of_price(program, told, shown):
    if not isinstance(told, tuple):
        return False
    if shown:
        return (len(told) == 3 and is_copying(told[0]) and _is_table_of(program, told[1])
                and _is_price_tree(told[2]))
    if len(told) == 3:
        return told[0] == "less" and is_copying(told[1]) and _is_table_of(program, told[2])
    return len(told) == 2 and told[0] == "more" and _is_price_tree(told[1])


def _is_of_stays(program, old, told, shown):
    if shown:
        names, spots = program[0], len(spot_paths(program))
        return is_tree(told, lambda content: is_table(content, names, spots), MOST_NODES)
    return (isinstance(told, tuple) and len(told) == 3 and is_copying(told[0])
            and _is_table_of(old, told[1]) and is_ways(told[2]))


def _is_table_of(program, value):
    return is_table(value, program[0], len(spot_paths(program)))


def _is_price_tree(value):
    return is_tree(value, lambda content: content == (), MOST_NODES)


def _fault_of_ways(judge, ways, copying):
    return None if judge.breaks(ways, copying) else ("ways",)


def _fault_of_price(judge, number, told, prices):
    if told[0] == "more":
        # Prices are integers: what is more than this number is not below the next one.
        return _fault_of_price_tree(judge, told[1], prices, number + 1)
    if told[0] == "less":
        _, copying, table = told
        if price_of(copying, prices) >= number:
            return ("price",)
        return judge.fault_of_table(table, copying)
    copying, table, tree = told
    if price_of(copying, prices) != number:
        return ("price",)
    fault = judge.fault_of_table(table, copying)
    return _fault_of_price_tree(judge, tree, prices, number) if fault is None else fault


def _fault_of_price_tree(judge, tree, prices, bound):
    """Return the fault of a tree that no safe copying has a price below the bound."""
    def fault_of_place(place, chosen):
        is_due = price_of(chosen, prices) >= bound
        return None if (place[0] == "leaf") == is_due else "leaf"

    return _fault_of_tree(judge, tree, (), (), fault_of_place)


def _fault_of_stays_tree(judge, judge_of_old, tree):
    def fault_of_place(place, chosen):
        return judge.fault_of_table(place[1], chosen) if place[0] == "leaf" else None

    return _fault_of_tree(judge_of_old, tree, (), (), fault_of_place)


def _fault_of_tree(judge, tree, path, chosen, fault_of_place):
    """Return the fault of the tree with this path, at which these labels are chosen.

    fault_of_place(tree, chosen) tells what is wrong with a place before its clause is asked for.
    """
    fault = fault_of_place(tree, chosen)
    if fault is not None:
        return ("tree", path, fault)
    if tree[0] == "leaf":
        return None
    _, clause, ways, trees = tree
    if meets(clause, chosen):
        return ("tree", path, "met")
    if not judge.breaks(ways, labels_besides(clause)):
        return ("tree", path, "ways")
    for k, label in enumerate(clause):
        fault = _fault_of_tree(judge, trees[k], path + (k,), with_label(chosen, label), fault_of_place)
        if fault is not None:
            return fault
    return None
