"""Words, keys, days and masks: telling them from other things, and turning one form into another."""

from grantweave.errors import NoKey

LETTERS = "abcdefghijklmnopqrstuvwxyz"
FIGURES = "0123456789"
LONGEST_WORD = 8
GREATEST_NUMBER = 99
LAST_DAY = 9999


def is_whole(thing):
    # Python counts True and False as numbers; the document doesn't.
    return isinstance(thing, int) and not isinstance(thing, bool)


def is_word(thing):
    if not isinstance(thing, str) or not 1 <= len(thing) <= LONGEST_WORD:
        return False
    return all([sign in LETTERS for sign in thing])


def is_key(thing):
    if not isinstance(thing, tuple) or len(thing) != 2:
        return False
    return is_word(thing[0]) and is_whole(thing[1]) and 0 <= thing[1] <= GREATEST_NUMBER


def is_day(thing):
    return is_whole(thing) and 0 <= thing <= LAST_DAY


def is_mask(thing, many):
    return is_whole(thing) and thing >= 0 and thing.bit_length() <= many


def bits_of(mask):
    places = []
    place = 0
    rest = mask
    while rest > 0:
        if rest % 2 == 1:
            places.append(place)
        rest = rest // 2
        place = place + 1
    return places


def least_bit(mask):
    places = bits_of(mask)
    return places[0] if places else None


def mask_of(places):
    mask = 0
    for place in places:
        # A place may stand several times, so the bits are not added up.
        mask = mask | (1 << place)
    return mask


def key_text(key):
    word = key[0]
    number = key[1]
    return f"{word}.{number}"


def is_number_text(text, longest):
    if not 1 <= len(text) <= longest:
        return False
    if text[0] == "0" and len(text) > 1:
        return False
    return all([sign in FIGURES for sign in text])


def is_key_text(text):
    halves = text.split(".")
    return len(halves) == 2 and is_word(halves[0]) and is_number_text(halves[1], 2)


def key_of(text):
    if not isinstance(text, str) or not is_key_text(text):
        raise NoKey(text)
    halves = text.split(".")
    return (halves[0], int(halves[1]))
