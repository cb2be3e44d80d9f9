"""The lines of a record, written and read one by one.

What a line tells is read without a look at its form: a word that tells no value stands for itself. A line is right
if what it tells is written in the same way.
"""

from lossway.checks import is_byte, is_integer, is_sequence
from lossway.errors import InvalidDeed, InvalidSetting
from lossway.settings import DEFAULTS, Settings

MOST_DIGITS = 12


def settings_line(word, settings):
    """The line of the settings of one station, without defaults."""
    choices = [(name, value) for name, value in zip(list(DEFAULTS), settings.row()) if value != DEFAULTS[name]]
    return " ".join([word, *[f"{name}={value}" for name, value in choices]])


def net_line(desk):
    """The line of the net."""
    return f"net copies={desk.copies} girth={desk.girth}"


def deed_line(deed):
    """The line of a deed; raises InvalidDeed if a value has no form in which it is written."""
    kind, *rest = deed
    if kind == "tick":
        return f"tick {number_text(deed, rest[0])}"
    if kind == "fate":
        return f"fate {number_text(deed, rest[0])} {fate_text(deed, rest[1])}"
    side, name, values, options = rest
    words = [value_text(deed, value) for value in values]
    pairs = [f"{option}={value_text(deed, value)}" for option, value in options]
    return " ".join([kind, number_text(deed, side), name, *words, *pairs])


def number_text(deed, value):
    """An integer as it is written."""
    if not is_integer(value):
        raise InvalidDeed(deed)
    return str(value)


def fate_text(deed, fate):
    """A fate as it is written."""
    return ",".join([copy_text(deed, item) for item in fate]) if len(fate) > 0 else "-"


def copy_text(deed, item):
    """One copy of a fate as it is written."""
    parts = item if is_sequence(item) else (item,)
    return ":".join([number_text(deed, part) for part in parts])


def value_text(deed, value):
    """A value of a call as it is written."""
    if value is None:
        return "none"
    if is_sequence(value) and all([is_byte(item) for item in value]):
        inner = ".".join([str(item) for item in value])
        return f"[{inner}]"
    return number_text(deed, value)


def settings_of(words):
    """The settings with the choices that words tell; raises what Settings raises."""
    choices = {}
    for word in words:
        name, _, value = word.partition("=")
        # Not every name can be passed on as a keyword.
        if name not in DEFAULTS:
            raise InvalidSetting(name)
        choices[name] = choice_of(value)
    return Settings(**choices)


def choice_of(word):
    """The value of a choice that a word tells, or the word."""
    if word in ("True", "False"):
        return word == "True"
    return number_of(word)


def number_of(word):
    """The integer that a word tells, or the word."""
    digits = word.removeprefix("-")
    is_number = digits.isascii() and digits.isdigit() and len(digits) <= MOST_DIGITS
    return int(word) if is_number else word


def net_of(words):
    """The number of copies and the girth that words tell."""
    if len(words) != 2:
        return None, None
    copies, girth = [number_of(word.partition("=")[2]) for word in words]
    return copies, girth


def deed_of(words):
    """The deed that words tell, or None if there is no such kind or another number of words."""
    kind, *rest = words
    if kind == "tick" and len(rest) == 1:
        return (kind, number_of(rest[0]))
    if kind == "fate" and len(rest) == 2:
        return (kind, number_of(rest[0]), fate_of(rest[1]))
    if kind == "call" and len(rest) >= 2:
        side, name, *others = rest
        values = [value_of(word) for word in others if "=" not in word]
        options = [option_of(word) for word in others if "=" in word]
        return (kind, number_of(side), name, tuple(values), tuple(sorted(options, key=lambda option: option[0])))
    return None


def fate_of(word):
    """The fate that a word tells."""
    return tuple([copy_of(part) for part in word.split(",")]) if word != "-" else ()


def copy_of(word):
    """The copy of a fate that a word tells."""
    parts = [number_of(part) for part in word.split(":")]
    return parts[0] if len(parts) == 1 else tuple(parts)


def value_of(word):
    """The value of a call that a word tells, or the word."""
    if word == "none":
        return None
    if word == "[]":
        return ()
    if word.startswith("[") and word.endswith("]"):
        return tuple([number_of(part) for part in word[1:-1].split(".")])
    return number_of(word)


def option_of(word):
    """The name and the value of an option that a word tells."""
    name, _, value = word.partition("=")
    return (name, value_of(value))
