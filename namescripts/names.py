"""Words, names and folders: what is one and what is not."""

from namescripts.errors import NoName, NoWord

MOST_LETTERS = 6
MOST_FIELDS = 30
MOST_NAMES = 30


def is_word(thing):
    """Whether it is a text of 1 to 6 letters a to z."""
    if not isinstance(thing, str) or not 1 <= len(thing) <= MOST_LETTERS:
        return False
    # Other alphabets have lower letters too, so the bounds are named.
    return all(["a" <= letter <= "z" for letter in thing])


def is_rising(things):
    """Whether each of these words or names is less than the next."""
    return all([things[at] < things[at + 1] for at in range(len(things) - 1)])


def is_name(thing):
    """Whether it is a name of up to 30 fields."""
    if not isinstance(thing, tuple) or not 1 <= len(thing) <= MOST_FIELDS:
        return False
    return all([is_word(field) for field in thing])


def is_folder(thing):
    """Whether it is a folder of names of up to 30 fields."""
    if not isinstance(thing, tuple) or len(thing) > MOST_NAMES:
        return False
    # Only names are sure to be comparable, so they are looked at first.
    return all([is_name(name) for name in thing]) and is_rising(thing)


def need_word(thing):
    """Refuse what is not a word."""
    if not is_word(thing):
        raise NoWord("not a word of 1 to 6 letters")


def need_name(thing):
    """Refuse what is not a name of up to 30 fields."""
    if not is_name(thing):
        raise NoName("not a name of up to 30 fields")
