"""Scripts by the dozen, and a plain search over all short names, by which told names are judged."""

from itertools import product
from random import Random

from namescripts.rules import first, is_rule, turned

# How often tests of each kind, open rules, rests and fields among the items are drawn.
MIXES = [
    ((3, 3, 2, 2), 0.7, 0.75, 0.6),
    ((3, 3, 2, 2), 0.9, 0.95, 0.8),
    ((1, 5, 1, 1), 1, 1, 0.9),
    ((1, 1, 6, 2), 0.7, 0.75, 0.6),
    ((0, 1, 8, 0), 0.8, 0.7, 0.8),
    ((3, 3, 2, 2), 0.3, 0.8, 0.6),
    ((2, 6, 1, 3), 1, 1, 1),
]
# So many words of a search, names up to so many fields.
DEPTHS = {1: 9, 2: 8, 3: 6, 4: 5, 5: 4, 6: 4}


def drawn_test(dice, words, at, weights):
    kind = dice.choices(["is", "any", "none", "like"], weights)[0]
    if kind == "is":
        return ("is", dice.choice(words))
    if kind == "none":
        return ("none", tuple(sorted(dice.sample(words, dice.randint(1, min(3, len(words)))))))
    if kind == "like" and at > 0:
        return ("like", dice.randrange(at))
    return ("any",)


def drawn_rule(dice, words, mix):
    weights, openness, resting, fields = mix
    is_open = dice.random() < openness
    fronts, backs = (dice.randrange(3), dice.randrange(3)) if is_open else (dice.randint(1, 2), 0)
    tests = tuple(drawn_test(dice, words, at, weights) for at in range(fronts + backs))
    making = [("rest",)] if is_open and dice.random() < resting else []
    for _ in range(dice.randint(1, 4 - len(making))):
        if tests and dice.random() < fields:
            making.append(("field", dice.randrange(len(tests))))
        else:
            making.append(("word", dice.choice(words)))
    dice.shuffle(making)
    rule = (tests[:fronts], is_open, tests[fronts:], tuple(making))
    assert is_rule(rule), rule
    return rule


def drawn_script(dice, words, mix, most=4):
    return tuple(drawn_rule(dice, words, mix) for _ in range(dice.randint(0, most)))


def drawn_scripts(seed, many):
    """So many scripts, each with words over which it is searched, two of them perhaps in no rule."""
    dice = Random(seed)
    for _ in range(many):
        words = ["a", "b", "c"][:dice.randint(1, 3)]
        yield drawn_script(dice, words, dice.choice(MIXES)), words + ["x", "y"][:dice.randint(1, 2)]


def drawn_rows(seed, many):
    """So many pairs of rows, some of them alike, each with words over which they are searched."""
    dice = Random(seed)
    for _ in range(many):
        words = ["a", "b", "c"][:dice.randint(1, 3)]
        mix = dice.choice(MIXES)
        row = tuple(drawn_script(dice, words, mix, 3) for _ in range(dice.randint(0, 2)))
        way = dice.randrange(3)
        if way == 0:
            other = tuple(drawn_script(dice, words, mix, 3) for _ in range(dice.randint(0, 2)))
        elif way == 1:
            other = tuple(tuple(dice.sample(script, len(script))) for script in row)
        else:
            other = row[::-1]
        yield row, other, words + ["x", "y"][:dice.randint(1, 2)]


def short_names(words, most=None):
    deepest = DEPTHS[len(words)]
    for many in range(1, (deepest if most is None else min(most, deepest)) + 1):
        yield from product(words, repeat=many)


def size(told):
    """How many fields a name or two names have, both together; None where none are told."""
    if told is None:
        return None
    return sum(map(len, told)) if isinstance(told[0], tuple) else len(told)


def fewest(sizes):
    return min(sizes, default=None)


def plain_clash(targets):
    """The fewest fields of two of these names that come to one; None where there are none."""
    comers = {}
    for name, target in targets.items():
        comers.setdefault(target, []).append(len(name))
    return fewest(sum(sorted(row)[:2]) for row in comers.values() if len(row) > 1)


def plain_matters(script, targets):
    return fewest(
        len(name) + len(target) for name, target in targets.items()
        if target != name and len(target) <= 30 and turned(script, target) != target
    )


def plain_swap(script, targets):
    return fewest(
        len(name) + len(target) for name, target in targets.items()
        if target != name and len(target) <= 30 and turned(script, target) == name
    )


def plain_first(script, names):
    """Under each rule's number the fewest fields of a name for which it is first."""
    found = {}
    for name in names:
        found.setdefault(first(script, name), len(name))
    return found


def plain_source(targets):
    """Under each name the fewest fields of one that comes to it."""
    found = {}
    for name, target in targets.items():
        found.setdefault(target, len(name))
    return found
