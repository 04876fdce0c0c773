"""Rules and scripts as texts, written and read."""

from namescripts.errors import NoText
from namescripts.rules import is_rule, is_script, need_rule, need_script

FIGURES = "0123456789"
REST = ".."


def text_of_test(test):
    """The text of a test."""
    kind = test[0]
    if kind == "is":
        return test[1]
    if kind == "any":
        return "*"
    if kind == "none":
        return "!" + ",".join(test[1])
    return f"={test[1]}"


def text_of_item(item):
    """The text of an item."""
    if item[0] == "word":
        return item[1]
    if item[0] == "field":
        return f"${item[1]}"
    return REST


def written_rule(rule):
    """The text of what is a rule."""
    fronts, is_open, backs, making = rule
    parts = [text_of_test(test) for test in fronts]
    if is_open:
        parts.append(REST)
    parts.extend([text_of_test(test) for test in backs])
    parts.append(">")
    parts.extend([text_of_item(item) for item in making])
    return " ".join(parts)


def written_script(script):
    """The text of what is a script."""
    return "".join([written_rule(rule) + "\n" for rule in script])


def test_of(part):
    """The test that this may be the text of."""
    if part == "*":
        return ("any",)
    if part.startswith("!"):
        return ("none", tuple(part[1:].split(",")))
    if part.startswith("="):
        return ("like", FIGURES.find(part[1:]))
    return ("is", part)


def item_of(part):
    """The item that this may be the text of."""
    if part == REST:
        return ("rest",)
    if part.startswith("$"):
        return ("field", FIGURES.find(part[1:]))
    return ("word", part)


def rule_of(line):
    """The rule that this may be the text of."""
    looking, _, making = line.partition(" > ")
    parts = looking.split(" ")
    is_open = REST in parts
    at = parts.index(REST) if is_open else len(parts)
    fronts = tuple([test_of(part) for part in parts[:at]])
    backs = tuple([test_of(part) for part in parts[at + 1:]])
    return (fronts, is_open, backs, tuple([item_of(part) for part in making.split(" ")]))


def rule_text(rule):
    """The text of the rule."""
    need_rule(rule)
    return written_rule(rule)


def script_text(script):
    """The text of the script."""
    need_script(script)
    return written_script(script)


def read_rule(text):
    """The rule that is written so."""
    if not isinstance(text, str):
        raise NoText("not a text")
    rule = rule_of(text)
    # Only what is written in the very same way is read, whatever else could be made out.
    if not is_rule(rule) or written_rule(rule) != text:
        raise NoText("not the text of a rule")
    return rule


def read_script(text):
    """The script that is written so."""
    if not isinstance(text, str):
        raise NoText("not a text")
    script = tuple([rule_of(line) for line in text.split("\n")[:-1]])
    if not is_script(script) or written_script(script) != text:
        raise NoText("not the text of a script")
    return script
