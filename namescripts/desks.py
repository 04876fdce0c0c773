"""A desk: files with their pasts, scripts under words, and deeds that can be undone."""

from namescripts.errors import Clash, Full, NoDeed, NotThere, Taken, TooLong
from namescripts.folders import clashing
from namescripts.names import MOST_FIELDS, MOST_NAMES, need_name, need_word
from namescripts.rules import need_script, turn


class Desk:
    """Files and scripts; what stood before each deed is kept to undo it.

    The dicts are replaced and never changed, so twins and what stood before can share them.
    A past is a pair of the last name and the past before it, so that it can be shared, too.
    """

    def __init__(self):
        self._files = {}
        self._scripts = {}
        self._before = []

    def _become(self, files, scripts):
        """Do a deed, after which these are the files and the scripts."""
        self._before.append((self._files, self._scripts))
        self._files = files
        self._scripts = scripts

    def put(self, name):
        """Put in a file of that name."""
        need_name(name)
        if name in self._files:
            raise Taken("a file has that name")
        if len(self._files) >= MOST_NAMES:
            raise Full("no room for another file")
        files = {other: self._files[other] for other in self._files}
        files[name] = (name, None)
        self._become(files, self._scripts)

    def take(self, name):
        """Take out the file of that name."""
        need_name(name)
        if name not in self._files:
            raise NotThere("no file has that name")
        files = {other: self._files[other] for other in self._files if other != name}
        self._become(files, self._scripts)

    def keep(self, word, script):
        """Keep the script under the word."""
        need_word(word)
        if word in self._scripts:
            raise Taken("a script is kept under that word")
        need_script(script)
        scripts = dict(self._scripts)
        scripts[word] = script
        self._become(self._files, scripts)

    def drop(self, word):
        """Keep the script under the word no longer."""
        self.kept(word)
        scripts = {other: self._scripts[other] for other in self._scripts if other != word}
        self._become(self._files, scripts)

    def do(self, word):
        """Do the script under the word at once to all files."""
        script = self.kept(word)
        targets = {name: turn(script, name) for name in self._files}
        found = clashing(targets)
        if len(found) > 0:
            raise Clash(found)
        if any([len(target) > MOST_FIELDS for target in targets.values()]):
            raise TooLong("a name would have more than 30 fields")
        files = {}
        for name, target in targets.items():
            past = self._files[name]
            files[target] = past if target == name else (target, past)
        self._become(files, self._scripts)

    def undo(self):
        """Make the last deed that is not undone as if it had not been."""
        if len(self._before) == 0:
            raise NoDeed("no deed is left to be undone")
        self._files, self._scripts = self._before.pop()

    def folder(self):
        """The rising tuple of the names of all files."""
        return tuple(sorted(self._files))

    def kept(self, word):
        """The script that is kept under the word."""
        need_word(word)
        if word not in self._scripts:
            raise NotThere("no script is kept under that word")
        return self._scripts[word]

    def words(self):
        """The rising list of the words under which scripts are kept."""
        return sorted(self._scripts)

    def past(self, name):
        """The list of the names that the file had, the last of them its own."""
        need_name(name)
        if name not in self._files:
            raise NotThere("no file has that name")
        found = []
        step = self._files[name]
        while step is not None:
            found.append(step[0])
            step = step[1]
        return found[::-1]

    def twin(self):
        """A desk that stands just so, with all that can be undone."""
        other = Desk()
        other._files = self._files
        other._scripts = self._scripts
        other._before = list(self._before)
        return other

    def __len__(self):
        return len(self._files)
