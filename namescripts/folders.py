"""What a script makes of a folder, at once or one by one."""

from namescripts.errors import Clash, Lost, NoFolder, NoOrder, Ringed
from namescripts.names import is_folder, is_name
from namescripts.rules import need_script, turn


def need_folder(thing):
    """Refuse what is not a folder."""
    if not is_folder(thing):
        raise NoFolder("not a folder")


def is_order(thing, folder):
    """Whether it is an order of the folder."""
    if not isinstance(thing, tuple) or len(thing) != len(folder):
        return False
    # Only names are sure to be comparable, so they are looked at first.
    if not all([is_name(name) for name in thing]):
        return False
    return sorted(thing) == list(folder)


def targets_of(script, folder):
    """Under each name of the folder the one that it comes to."""
    need_script(script)
    need_folder(folder)
    return {name: turn(script, name) for name in folder}


def clashing(targets):
    """The rising tuple of all names that come to one to which others come."""
    comers = {}
    for name, target in targets.items():
        comers.setdefault(target, []).append(name)
    return tuple(sorted([name for row in comers.values() if len(row) > 1 for name in row]))


def targets_apart(script, folder):
    """The same as targets_of, but refused if two names come to one."""
    targets = targets_of(script, folder)
    found = clashing(targets)
    if len(found) > 0:
        raise Clash(found)
    return targets


def trail(targets, name):
    """The names from this one on, each coming to the next, until one ends or recurs."""
    row = [name]
    target = targets[name]
    while target in targets and target not in row:
        row.append(target)
        target = targets[target]
    return row


def rings_of(targets):
    """The rising list of the rings among names of which no two come to one."""
    found = []
    for name in sorted(targets):
        row = trail(targets, name)
        # Each name of a ring leads around it; only the least one tells it.
        if len(row) > 1 and targets[row[-1]] == name and name == min(row):
            found.append(tuple(row))
    return found


def at_once(script, folder):
    """The folder, all of its names turned together."""
    targets = targets_apart(script, folder)
    return tuple(sorted(targets.values()))


def moved(script, folder):
    """The rising tuple of the names that come to another one."""
    targets = targets_of(script, folder)
    return tuple([name for name in folder if targets[name] != name])


def walked(script, folder, order):
    """The folder, each of its names in this order taken out, turned and put in."""
    targets = targets_of(script, folder)
    if not is_order(order, folder):
        raise NoOrder("not an order of the folder")
    there = {name: True for name in folder}
    for at, name in enumerate(order):
        del there[name]
        if targets[name] in there:
            raise Lost(at)
        there[targets[name]] = True
    return tuple(sorted(there))


def rings(script, folder):
    """The rising list of the rings of the folder."""
    return rings_of(targets_apart(script, folder))


def safe_order(script, folder):
    """An order of the folder in which nothing is lost."""
    targets = targets_apart(script, folder)
    if len(rings_of(targets)) > 0:
        raise Ringed("no order of the folder is safe")
    order = []
    for name in folder:
        # A name must be gone before another one comes to it.
        for step in reversed(trail(targets, name)):
            if step not in order:
                order.append(step)
    return tuple(order)
