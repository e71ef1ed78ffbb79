"""The commands of a shell: their words and forms."""

from answeredabove.base.words import is_name
from answeredabove.errors import InvalidCommand

LONGEST_NUMBER = 40
# Behind its first word each command has names and numbers.
FORMS = {
    "new": ("name",),
    "copy": ("name", "name"),
    "drop": ("name",),
    "go": ("name", "number"),
    "back": ("name", "number"),
    "cut": ("name", "name", "number", "name"),
    "text": ("name",),
    "where": ("name",),
    "ends": ("name",),
    "depth": ("name",),
    "idle": ("name",),
    "who": ("name", "name", "number"),
    "new-ends": ("name", "name"),
}
# The commands that change something.
DEEDS = ("new", "copy", "drop", "go", "back", "cut")


def command_told(value):
    """What a command tells: its first word, the values of its other words, and the text below it, perhaps ""."""
    if not isinstance(value, str):
        raise InvalidCommand("a command is a string")
    line, end, text = value.partition("\n")
    first, *others = line.split(" ")
    form = FORMS.get(first, None)
    if form is None or len(form) != len(others):
        raise InvalidCommand("these are not the words of a command")
    if not all([_is_word(word, kind) for word, kind in zip(others, form)]):
        raise InvalidCommand("a word of the command has a wrong form")
    if (first == "new") != (end == "\n"):
        raise InvalidCommand("a text stands below the command new, and below no other one")
    return first, [int(word) if kind == "number" else word for word, kind in zip(others, form)], text


def _is_word(word, kind):
    return is_name(word) if kind == "name" else _is_number(word)


def _is_number(word):
    """Whether the word is a number from 0 on, without zeros ahead of it."""
    if not 1 <= len(word) <= LONGEST_NUMBER or not all(["0" <= letter <= "9" for letter in word]):
        return False
    return word == "0" or word[0] != "0"
