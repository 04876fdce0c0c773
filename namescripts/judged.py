"""What a script does to all names that there may be, however long they are.

A rule looks at the two first and the two last fields of a name alone; those in between it
drops or takes along as they stand. So where a long name shows something, a shorter one does,
too, in which a field in between is left out. The numbers below say up to how many fields
names are tried: no longer one can be a shortest one.
"""

from namescripts.errors import NoNumber
from namescripts.facts import Facts
from namescripts.names import need_name
from namescripts.rules import is_number_below, need_script
from namescripts.ways import equal_if, has_rest, name_of, unlike_if, ways, words_of

# No rule looks at the third of five fields: without it the same rule is first.
MOST_FIRST = 4
# A rule with a rest looks at four fields at most and makes one at least besides the rest; one
# without a rest needs a name of four fields at most, and makes one field at least.
MOST_DROPPED = 3
# By a rule without a rest a name of six fields comes to the same without the third one. If
# the other name that comes to it is just what is left, both can do without a field.
MOST_RESTLESS = 5
# Where both names have a rest, a field in the rests of both can be left out of both. As items
# stand before or behind, it has places in the two names that are up to five apart. Of 16
# fields one lies clear of the two at each end and of the field by which the names are unlike.
MOST_LESSER = 15
# A rule adds or drops up to three fields, so names that come to one differ by up to six.
MOST_GREATER = 21
# Two rules in turn look at four fields at each end. Of two fields in between one can be left
# out, and the other one, if it has a word of its own, makes names unlike that can be.
MOST_MATTERS = 9
# A name that comes back to itself is the same after a shift of up to four fields, so just as
# many must be left out at once: between six made fields at each end, and clear of the field
# by which the names are unlike, which costs seven places more.
MOST_SWAP = 22
# Fields of the second of two names have numbers of their own.
OTHER_START = 100


def shown(names, facts, claims, clauses, used):
    """The names in words, if the facts, claims and clauses go together; else None."""
    more = facts.plus(claims, clauses)
    found = None if more is None else more.solved()
    return None if found is None else found.tell(names, used)


def first_name(script, number):
    """A shortest name for which the rule is first, or None."""
    for size in range(1, MOST_FIRST + 1):
        name = name_of(size)
        for way in ways(script, name):
            if way.number == number:
                told = shown([name], Facts(), way.claims, way.clauses, words_of([script]))
                if told is not None:
                    return told[0]
    return None


def first_for(script, number):
    """A shortest name for which the rule of that number is first, or None."""
    need_script(script)
    if not is_number_below(number, len(script)):
        raise NoNumber("no number of a rule of the script")
    return first_name(script, number)


def idle(script):
    """The rising list of the numbers of the rules that are first for no name."""
    need_script(script)
    return [number for number in range(len(script)) if first_name(script, number) is None]


def source(script, name):
    """A shortest name that comes to the name, or None."""
    need_script(script)
    need_name(name)
    used = words_of([script])
    used.update({word: True for word in name})
    for size in range(1, len(name) + MOST_DROPPED + 1):
        sought = name_of(size)
        for way in ways(script, sought):
            claims = equal_if(way.target, name)
            if claims is None:
                continue
            told = shown([sought], Facts(), way.claims + claims, way.clauses, used)
            if told is not None:
                return told[0]
    return None


def total(way):
    """How many fields the name and what becomes of it have together."""
    return len(way.name) + len(way.target)


def moves(script, most):
    """The ways by rules for names of up to so many fields, the least total first."""
    found = []
    for size in range(1, most + 1):
        found.extend([way for way in ways(script, name_of(size)) if way.number < len(script)])
    return sorted(found, key=total)


def moving(way):
    """Facts under which the way is taken and moves the name; None where there are none."""
    return Facts().plus(way.claims, way.clauses + unlike_if(way.name, way.target))


def matters(script):
    """A shortest pair of names of which the first comes to the second, which is moved; or None."""
    need_script(script)
    for way in moves(script, MOST_MATTERS):
        facts = moving(way)
        if facts is None:
            continue
        for then in ways(script, way.target):
            clauses = then.clauses + unlike_if(then.name, then.target)
            told = shown([way.name, way.target], facts, then.claims, clauses, words_of([script]))
            if told is not None:
                return (told[0], told[1])
    return None


def swap(script):
    """A shortest rising pair of names that change places, or None."""
    need_script(script)
    for way in moves(script, MOST_SWAP):
        # The longer name of two is met again as what the shorter one comes to.
        facts = moving(way) if len(way.name) <= len(way.target) else None
        if facts is None:
            continue
        for then in ways(script, way.target):
            claims = equal_if(then.target, way.name)
            if claims is None:
                continue
            told = shown([way.name, way.target], facts, then.claims + claims, then.clauses, words_of([script]))
            if told is not None:
                return (min(told), max(told))
    return None


def possible(script, name):
    """The ways that names of this size may take, each with its facts, as pairs."""
    found = []
    for way in ways(script, name):
        if len(name) > MOST_RESTLESS and not has_rest(script, way):
            continue
        facts = Facts().plus(way.claims, way.clauses)
        if facts is not None:
            found.append((way, facts))
    return found


def clash_by(script, one, facts, other):
    """A pair of names that come to one by these ways, the first with these facts; or None."""
    claims = equal_if(one.target, other.target)
    if claims is None or (len(one.name) == len(other.name) and one.number > other.number):
        return None
    clauses = other.clauses + unlike_if(one.name, other.name)
    return shown([one.name, other.name], facts, claims + other.claims, clauses, words_of([script]))


def clash(script):
    """A shortest rising pair of names that come to one, or None."""
    need_script(script)
    lesser = {size: possible(script, name_of(size)) for size in range(1, MOST_LESSER + 1)}
    greater = {size: possible(script, name_of(size, OTHER_START)) for size in range(1, MOST_GREATER + 1)}
    sizes = sorted([(size + more, size, more) for size in lesser for more in greater if size <= more])
    for _, size, more in sizes:
        for one, facts in lesser[size]:
            for other, _ in greater[more]:
                told = clash_by(script, one, facts, other)
                if told is not None:
                    return (min(told), max(told))
    return None
