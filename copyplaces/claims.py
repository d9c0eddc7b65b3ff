"""Claims about a program and prices, and which word is true of them [15]."""

from copyplaces.clauses import labels_besides
from copyplaces.errors import InvalidClaim, InvalidProgram
from copyplaces.facts import facts_of
from copyplaces.forms import is_copying
from copyplaces.least import cheapest, least_copyings, price_of
from copyplaces.programs import is_number, require_program
from copyplaces.safety import breaking
from copyplaces.trees import price_tree, stays_tree

MOST_NUMBER = 999


def require_claim(claim):
    """Raise InvalidClaim if the value, which may be anything, is not a claim."""
    if not is_claim(claim):
        raise InvalidClaim()


def is_claim(value):
    """Return whether the value, which may be anything, is a claim."""
    if not isinstance(value, tuple) or len(value) != 2:
        return False
    word, about = value
    if word == "safe":
        return is_copying(about)
    if word == "clause":
        return is_copying(about) and about != ()
    if word == "price":
        return is_number(about, 0, MOST_NUMBER)
    return word == "stays" and _is_program(about)


def decide(program, claim, *, prices=(1, 1, 1, 1, 1, 1, 1, 1)):
    """Return a certificate with the word that is true of the claim."""
    require_claim(claim)
    word, about = claim
    if word == "safe":
        return _decide_safe(program, claim)
    if word == "clause":
        return _decide_clause(program, claim)
    if word == "price":
        return _decide_price(program, claim, prices)
    return _decide_stays(program, claim)


def _is_program(value):
    try:
        require_program(value)
    except InvalidProgram:
        return False
    return True


def _decide_safe(program, claim):
    ways = breaking(program, claim[1])
    if ways is None:
        return ("shown", claim, facts_of(program, claim[1]))
    return ("broken", claim, ways)


def _decide_clause(program, claim):
    others = labels_besides(claim[1])
    ways = breaking(program, others)
    if ways is None:
        return ("broken", claim, facts_of(program, others))
    return ("shown", claim, ways)


def _decide_price(program, claim, prices):
    number = claim[1]
    copying = cheapest(program, prices)
    least = price_of(copying, prices)
    if number < least:
        # Prices are integers: what is not below the next one is more than this one.
        return ("broken", claim, ("more", price_tree(program, prices, number + 1)))
    table = facts_of(program, copying)
    if number > least:
        return ("broken", claim, ("less", copying, table))
    return ("shown", claim, (copying, table, price_tree(program, prices, number)))


def _decide_stays(program, claim):
    old = claim[1]
    # Each safe copying of old has all labels of a least one, and more copies break nothing.
    for copying in least_copyings(old):
        ways = breaking(program, copying)
        if ways is not None:
            return ("broken", claim, (copying, facts_of(old, copying), ways))
    return ("shown", claim, stays_tree(program, old))
