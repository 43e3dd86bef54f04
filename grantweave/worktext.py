"""The texts of works: writing them and reading them."""

from grantweave.errors import BadText
from grantweave.joins import join_words
from grantweave.words import is_key_text, is_word, key_of, key_text
from grantweave.works import MOST_OFFERS, Part, walked


def part_words(part):
    return [part.name] + [key_text(offer) for offer in part.offers]


def part_row(road, part):
    if not road:
        return " ".join(part_words(part))
    return " ".join(["-" * len(road), road[-1][0]] + part_words(part))


def show_work(work):
    return "\n".join([part_row(road, part) for road, part in walked(work)])


def are_part_words(words):
    if not 1 <= len(words) <= 1 + MOST_OFFERS:
        return False
    return is_word(words[0]) and all([is_key_text(text) for text in words[1:]])


def is_joined_row(words, most):
    if len(words) < 2 or words[0] != "-" * len(words[0]) or not 1 <= len(words[0]) <= most:
        return False
    return words[1] in join_words() and are_part_words(words[2:])


def need_forms(rows):
    if not are_part_words(rows[0]):
        raise BadText(0)
    most = 1
    for place in range(1, len(rows)):
        if not is_joined_row(rows[place], most):
            raise BadText(place)
        most = len(rows[place][0]) + 1


def made_part(words, beneath):
    return Part(words[0], [key_of(text) for text in words[1:]], beneath)


def made_work(rows):
    # By how many strokes they have: the parts made so far that the next row with a stroke less takes beneath it.
    waiting = {}
    for words in reversed(rows[1:]):
        strokes = len(words[0])
        part = made_part(words[2:], waiting.pop(strokes + 1, []))
        waiting[strokes] = [(words[1], part)] + waiting.get(strokes, [])
    return made_part(rows[0], waiting.get(1, []))


def read_work(text):
    if not isinstance(text, str):
        raise BadText(0)
    rows = [row.split(" ") for row in text.split("\n")]
    need_forms(rows)
    return made_work(rows)
