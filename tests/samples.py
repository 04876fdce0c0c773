"""Names, rules and odd things that several tests share."""

from itertools import product

A, B, C, D = ("a",), ("b",), ("c",), ("d",)
LONG = ("a",) * 30
TOO_LONG = ("a",) * 31
ANY = ("any",)
REST = ("rest",)
IS_A, IS_B = ("is", "a"), ("is", "b")
X = (("word", "x"),)


class Sullen:
    """A thing that does not let itself be compared, measured or hashed."""

    def __eq__(self, other):
        raise RuntimeError("compared")

    __ne__ = __lt__ = __le__ = __gt__ = __ge__ = __eq__

    def __hash__(self):
        raise RuntimeError("hashed")

    def __len__(self):
        raise RuntimeError("measured")

    def __bool__(self):
        raise RuntimeError("tested")

    def __iter__(self):
        raise RuntimeError("iterated")


def nested(make, depth=39):
    thing = make(())
    for _ in range(depth):
        thing = make((thing,))
    return thing


def odd_things():
    """Things of many kinds, none a word, a name, a rule, a test or a number in use."""
    return [
        None, True, False, 7, -1, 10 ** 40, "", "A", "abcdefg", "a b", "a1", "\u00e9", "a\n",
        "\ud800", b"", b"a", [], ["a"], {}, {"a": 1}, set(), {"a"}, frozenset(), frozenset("a"),
        range(3), object(), Sullen(), [Sullen()], (Sullen(),), (None,), ((),), ("",), ("A",),
        (True,), (0,), ([],), ({},), len, int, odd_things, ValueError("a"), NotImplemented, ...,
        nested(tuple), nested(list), (("is", "A"),), ("is", "a", "B"), iter("a"),
    ]


def swaps(thing, others):
    """The tuple with each thing within it, however deep, replaced by each of the others."""
    for at, part in enumerate(thing):
        ahead, behind = thing[:at], thing[at + 1:]
        for other in others:
            if other is not part:
                yield ahead + (other,) + behind
        if isinstance(part, tuple):
            for changed in swaps(part, others):
                yield ahead + (changed,) + behind


def closed(*fronts, making=X):
    return (fronts, False, (), tuple(making))


def ajar(fronts, backs, making=X):
    return (tuple(fronts), True, tuple(backs), tuple(making))


def rename(old, new):
    """A closed rule that turns one name of one or two fields into another one."""
    tests = tuple(("is", word) for word in old)
    return (tests, False, (), tuple(("word", word) for word in new))


def names_over(words, most):
    """All names of up to so many fields of these words."""
    return [name for many in range(1, most + 1) for name in product(words, repeat=many)]


SHIFT = (rename(A, B), rename(B, C))
SWAP = (rename(A, B), rename(B, A))
WHEEL = (rename(A, B), rename(B, C), rename(C, A))
MERGE = (rename(A, C), rename(B, C))
