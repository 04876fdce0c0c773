"""What a script may make of all names of one size, whatever words they have.

Such a name is a tuple of parts: each one is a word, or the number of a field that is sought.
"""

from namescripts.facts import opposite
from namescripts.rules import built, looked_at

REST = ("rest",)


class Way:
    """A way in which a script may turn a name: by which rule, into what, and when."""

    def __init__(self, number, name, target, claims, clauses):
        self.number = number
        self.name = name
        self.target = target
        self.claims = claims
        self.clauses = clauses


def name_of(size, start=0):
    """A name of so many fields, all of them sought, with numbers from the start on."""
    return tuple(range(start, start + size))


def words_of_rule(rule):
    """The words of its tests and items, some of them perhaps several times."""
    fronts, _, backs, making = rule
    words = [test[1] for test in fronts + backs if test[0] == "is"]
    words.extend([word for test in fronts + backs if test[0] == "none" for word in test[1]])
    words.extend([item[1] for item in making if item[0] == "word"])
    return words


def words_of(scripts):
    """A dict with the words of all these scripts as its keys."""
    return {word: True for script in scripts for rule in script for word in words_of_rule(rule)}


def same_if(one, other):
    """True or False, or the claim under which the two parts are the same word."""
    if one == other:
        return True
    if isinstance(one, str) and isinstance(other, str):
        return False
    if isinstance(one, str):
        return ("among", other, (one,))
    if isinstance(other, str):
        return ("among", one, (other,))
    return ("same", one, other)


def passes_if(test, part, looked):
    """True or False, or the claim under which the part passes the test."""
    kind = test[0]
    if kind == "any":
        return True
    if kind == "is":
        return same_if(part, test[1])
    if kind == "like":
        return same_if(part, looked[test[1]])
    if isinstance(part, str):
        return part not in test[1]
    return ("outside", part, test[1])


def all_if(claims):
    """The claims that are not settled, under which all hold; None where one never does."""
    left = []
    for claim in claims:
        if claim is False:
            return None
        if claim is not True:
            left.append(claim)
    return left


def fits_if(rule, name):
    """The claims under which the rule fits the name; None where it never does."""
    looked = looked_at(rule, name)
    if looked is None:
        return None
    return all_if([passes_if(test, part, looked) for test, part in zip(rule[0] + rule[2], looked)])


def equal_if(one, other):
    """The claims under which the names are the same; None where they never are."""
    if len(one) != len(other):
        return None
    return all_if([same_if(part, match) for part, match in zip(one, other)])


def not_all(claims):
    """The clauses under which not all of the claims hold; None are claims that never do."""
    if claims is None:
        return []
    return [[opposite(claim) for claim in claims]]


def unlike_if(one, other):
    """The clauses under which the names are unlike."""
    return not_all(equal_if(one, other))


def ways(script, name):
    """The ways in which the script may turn the name; the number of the last is of no rule if it stays."""
    found = []
    clauses = []
    for number, rule in enumerate(script):
        claims = fits_if(rule, name)
        if claims is None:
            continue
        found.append(Way(number, name, built(rule, name), claims, clauses))
        clauses = clauses + not_all(claims)
    found.append(Way(len(script), name, name, [], clauses))
    return found


def has_rest(script, way):
    """Whether what becomes of the name grows with its size."""
    return way.number == len(script) or REST in script[way.number][3]
