"""Rules and scripts: what is one, when a rule fits, and what is made."""

from namescripts.errors import NoRule, NoScript
from namescripts.names import is_rising, is_word, need_name

MOST_TESTS = 2
MOST_BARRED = 3
MOST_ITEMS = 4
MOST_RULES = 4


def is_number_below(thing, limit):
    """Whether it is a whole number from 0 on, below the limit."""
    # True and False are integers to Python, but numbers to nobody here.
    if not isinstance(thing, int) or isinstance(thing, bool):
        return False
    return 0 <= thing < limit


def has_kind(thing):
    """Whether it is a tuple that begins with a text, as tests and items do."""
    return isinstance(thing, tuple) and len(thing) > 0 and isinstance(thing[0], str)


def is_barred(thing):
    """Whether it is a rising tuple of 1 to 3 unlike words."""
    if not isinstance(thing, tuple) or not 1 <= len(thing) <= MOST_BARRED:
        return False
    return all([is_word(word) for word in thing]) and is_rising(thing)


def is_test(thing, number):
    """Whether it is a test that may stand as the test of that number."""
    if not has_kind(thing):
        return False
    kind = thing[0]
    if kind == "any":
        return len(thing) == 1
    if len(thing) != 2:
        return False
    if kind == "is":
        return is_word(thing[1])
    if kind == "none":
        return is_barred(thing[1])
    return kind == "like" and is_number_below(thing[1], number)


def is_side(thing):
    """Whether it is a tuple of as many tests as may be fronts or backs."""
    return isinstance(thing, tuple) and len(thing) <= MOST_TESTS


def is_looking(fronts, is_open, backs):
    """Whether these are the fronts, the openness and the backs of a rule."""
    if not is_side(fronts) or not is_side(backs) or not isinstance(is_open, bool):
        return False
    if not is_open and (len(backs) > 0 or len(fronts) == 0):
        return False
    return all([is_test(test, number) for number, test in enumerate(fronts + backs)])


def is_item(thing, tests, is_open):
    """Whether it is an item of a rule with so many tests."""
    if not has_kind(thing):
        return False
    kind = thing[0]
    if kind == "rest":
        return len(thing) == 1 and is_open
    if len(thing) != 2:
        return False
    if kind == "word":
        return is_word(thing[1])
    return kind == "field" and is_number_below(thing[1], tests)


def is_making(thing, tests, is_open):
    """Whether it is the making of a rule with so many tests."""
    if not isinstance(thing, tuple) or not 1 <= len(thing) <= MOST_ITEMS:
        return False
    if not all([is_item(item, tests, is_open) for item in thing]):
        return False
    rests = len([item for item in thing if item[0] == "rest"])
    return rests <= 1 and rests < len(thing)


def is_rule(thing):
    """Whether it is a rule."""
    if not isinstance(thing, tuple) or len(thing) != 4:
        return False
    fronts, is_open, backs, making = thing
    if not is_looking(fronts, is_open, backs):
        return False
    return is_making(making, len(fronts) + len(backs), is_open)


def is_script(thing):
    """Whether it is a script."""
    if not isinstance(thing, tuple) or len(thing) > MOST_RULES:
        return False
    return all([is_rule(rule) for rule in thing])


def need_rule(thing):
    """Refuse what is not a rule."""
    if not is_rule(thing):
        raise NoRule("not a rule")


def need_script(thing):
    """Refuse what is not a script."""
    if not is_script(thing):
        raise NoScript("not a script")


def passes(test, field, looked):
    """Whether the field passes the test; looked are the fields of all tests."""
    kind = test[0]
    if kind == "is":
        return field == test[1]
    if kind == "none":
        return field not in test[1]
    if kind == "like":
        return field == looked[test[1]]
    return True


def looked_at(rule, name):
    """The fields at which the tests look, by their numbers; None if it lacks them."""
    fronts, is_open, backs, _ = rule
    tests = len(fronts) + len(backs)
    if len(name) < tests or (len(name) > tests and not is_open):
        return None
    return name[:len(fronts)] + name[len(name) - len(backs):]


def is_fitting(rule, name):
    """Whether the rule fits the name, which may be of any length."""
    looked = looked_at(rule, name)
    if looked is None:
        return False
    tests = rule[0] + rule[2]
    return all([passes(test, field, looked) for test, field in zip(tests, looked)])


def built(rule, name):
    """What the rule makes of a name that it fits, whatever the fields are."""
    fronts, _, backs, making = rule
    looked = looked_at(rule, name)
    fields = []
    for item in making:
        if item[0] == "word":
            fields.append(item[1])
        elif item[0] == "field":
            fields.append(looked[item[1]])
        else:
            fields.extend(name[len(fronts):len(name) - len(backs)])
    return tuple(fields)


def made(rule, name):
    """What the rule makes of the name, which may be of any length; or None."""
    if not is_fitting(rule, name):
        return None
    return built(rule, name)


def first_fitting(script, name):
    """The number of the first rule that fits the name of any length; or None."""
    for number, rule in enumerate(script):
        if is_fitting(rule, name):
            return number
    return None


def turn(script, name):
    """What the script turns the name, which may be of any length, into."""
    number = first_fitting(script, name)
    if number is None:
        return name
    return built(script[number], name)


def fits(rule, name):
    """Whether the rule fits the name."""
    need_rule(rule)
    need_name(name)
    return is_fitting(rule, name)


def makes(rule, name):
    """The name that the rule makes of the name, or None, where it does not fit."""
    need_rule(rule)
    need_name(name)
    return made(rule, name)


def first(script, name):
    """The number of the rule by which the name is turned, or None."""
    need_script(script)
    need_name(name)
    return first_fitting(script, name)


def turned(script, name):
    """The name into which the script turns the name."""
    need_script(script)
    need_name(name)
    return turn(script, name)
