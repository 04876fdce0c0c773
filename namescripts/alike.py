"""Rows of scripts: what they turn names into, and whether they turn all names alike."""

from namescripts.errors import NoRow
from namescripts.facts import Facts
from namescripts.names import need_name
from namescripts.rules import is_script, turn
from namescripts.ways import name_of, unlike_if, ways, words_of

MOST_SCRIPTS = 2
# Two scripts look at the four first and the four last fields alone. Of two fields in between
# one can be left out, and by the other one, with a word of its own, names are unlike if they
# are at all; but a name that takes along the rest may happen to be as long as one that does
# not, though only for one size, so that one more field may be needed.
MOST_UNLIKE = 10


def is_row(thing):
    """Whether it is a row of scripts."""
    if not isinstance(thing, tuple) or len(thing) > MOST_SCRIPTS:
        return False
    return all([is_script(script) for script in thing])


def need_row(thing):
    """Refuse what is not a row of scripts."""
    if not is_row(thing):
        raise NoRow("not a row of scripts")


def turned_by(row, name):
    """The name into which the scripts of the row turn the name, each in order."""
    need_row(row)
    need_name(name)
    for script in row:
        name = turn(script, name)
    return name


def outcomes(facts, row, name):
    """What the row may make of the name under these facts: pairs of more facts and a name."""
    found = [(facts, name)]
    for script in row:
        ahead = found
        found = []
        for known, step in ahead:
            for way in ways(script, step):
                more = known.plus(way.claims, way.clauses)
                if more is not None:
                    found.append((more, way.target))
    return found


def unlike_of_size(row, other, size):
    """A name of so many fields that the rows turn unlike, or None."""
    name = name_of(size)
    for facts, one in outcomes(Facts(), row, name):
        for known, two in outcomes(facts, other, name):
            more = known.plus([], unlike_if(one, two))
            found = None if more is None else more.solved()
            if found is not None:
                return found.tell([name], words_of(row + other))[0]
    return None


def unlike(row, other):
    """A shortest name that the rows turn unlike, or None."""
    need_row(row)
    need_row(other)
    for size in range(1, MOST_UNLIKE + 1):
        found = unlike_of_size(row, other, size)
        if found is not None:
            return found
    return None
