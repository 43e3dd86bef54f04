"""The lines that a desk takes: the forms of their words, and what these stand for."""

from grantweave.errors import NoLine
from grantweave.words import is_key_text, is_number_text, is_word, key_of

LONGEST_NUMBER = 7
BETWEEN_ROWS = " / "
# For each first word the kinds of those behind it, one each, and last the kind of all that stand behind these.
FORMS = {
    "book": ("rows",),
    "work": ("word", "rows"),
    "take": ("work", "word", "number", "end"),
    "join": ("work", "word", "word", "end"),
    "offer": ("work", "word", "keys"),
    "put": ("work", "word", "word", "word", "keys"),
    "out": ("work", "word", "end"),
    "step": ("work", "word", "key", "end"),
    "show": ("work", "end"),
    "told": ("work", "end"),
    "least": ("work", "end"),
    "stops": ("work", "key", "end"),
    "duties": ("work", "key", "end"),
    "own": ("work", "end"),
    "loose": ("work", "key", "prices"),
    "lost": ("work", "work", "end"),
    "on": ("work", "number", "end"),
    "give": ("word", "work", "key", "number", "end"),
    "givings": ("end",),
    "ended": ("number", "end"),
}


def has_form(kind, word):
    if kind == "key":
        return is_key_text(word)
    if kind == "number":
        return is_number_text(word, LONGEST_NUMBER)
    return is_word(word)


def are_prices(words):
    parts = words[::2]
    if len(words) % 2 != 0 or not all([is_word(part) for part in parts]):
        return False
    return all([has_form("number", price) for price in words[1::2]]) and len(set(parts)) == len(parts)


def is_tail(kind, words):
    if kind == "rows":
        return len(words) > 0
    if kind == "keys":
        return all([is_key_text(word) for word in words])
    if kind == "prices":
        return are_prices(words)
    return not words


def is_line(words):
    if words[0] not in FORMS:
        return False
    kinds = FORMS[words[0]]
    behind = words[1:]
    single = len(kinds) - 1
    if len(behind) < single or not all([has_form(kind, word) for kind, word in zip(kinds[:-1], behind)]):
        return False
    return is_tail(kinds[-1], behind[single:])


def meant(kind, word):
    if kind == "key":
        return key_of(word)
    if kind == "number":
        return int(word)
    return word


def prices_of(words):
    prices = {}
    for part, price in zip(words[::2], words[1::2]):
        prices[part] = int(price)
    return prices


def tail_meant(kind, words):
    if kind == "rows":
        return [" ".join(words).replace(BETWEEN_ROWS, "\n")]
    if kind == "keys":
        return [[key_of(word) for word in words]]
    if kind == "prices":
        return [prices_of(words)]
    return []


def read_line(line):
    if not isinstance(line, str) or "\n" in line or not is_line(line.split(" ")):
        raise NoLine(line)
    words = line.split(" ")
    kinds = FORMS[words[0]]
    things = [meant(kind, word) for kind, word in zip(kinds[:-1], words[1:])]
    return (words[0], things + tail_meant(kinds[-1], words[len(kinds):]))


def asked_works(first, things):
    return [thing for kind, thing in zip(FORMS[first], things) if kind == "work"]
