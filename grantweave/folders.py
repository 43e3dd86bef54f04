"""Folders of notices: writing and reading them, and telling what they leave out."""

from grantweave.duties import due_rows
from grantweave.errors import BadText
from grantweave.joins import join_words
from grantweave.whole import choice_fits, need_known
from grantweave.words import is_key, is_key_text, is_word, key_of, key_text

FIRST_JOIN_WORD = 4


def notices_of(book, work, key, choice):
    return [(duty, name, offer, tuple(work.road(name))) for duty, name, offer in due_rows(book, work, key, choice)]


def folder_of(book, work, key, choice):
    rows = notices_of(book, work, key, choice)
    return (key, dict(choice), rows)


def owe_row(duty, name, offer, road):
    words = ["owe", duty, name, key_text(offer)]
    for pair in road:
        words.extend(list(pair))
    return " ".join(words)


def show_folder(folder):
    choice = folder[1]
    rows = [" ".join(["under", key_text(folder[0])])]
    rows.extend([" ".join(["take", name, key_text(choice[name])]) for name in sorted(choice)])
    rows.extend([owe_row(duty, name, offer, road) for duty, name, offer, road in folder[2]])
    return "\n".join(rows)


def is_under_row(words):
    return len(words) == 2 and words[0] == "under" and is_key_text(words[1])


def is_take_row(words, ahead):
    if len(words) != 3 or words[0] != "take" or not is_word(words[1]) or not is_key_text(words[2]):
        return False
    # The row ahead has its form, so no row of another kind stands between row 0 and it.
    return ahead[0] == "under" or (ahead[0] == "take" and ahead[1] < words[1])


def is_owe_row(words):
    if len(words) < FIRST_JOIN_WORD or len(words) % 2 != 0 or words[0] != "owe":
        return False
    if not is_word(words[1]) or not is_word(words[2]) or not is_key_text(words[3]):
        return False
    known = join_words()
    return all([join in known and is_word(name) for join, name in road_of(words)])


def road_of(words):
    pairs = words[FIRST_JOIN_WORD:]
    return list(zip(pairs[::2], pairs[1::2]))


def need_forms(rows):
    if not is_under_row(rows[0]):
        raise BadText(0)
    for place in range(1, len(rows)):
        if not is_take_row(rows[place], rows[place - 1]) and not is_owe_row(rows[place]):
            raise BadText(place)


def read_folder(text):
    if not isinstance(text, str):
        raise BadText(0)
    rows = [row.split(" ") for row in text.split("\n")]
    need_forms(rows)
    choice = {}
    notices = []
    for words in rows[1:]:
        if words[0] == "take":
            choice[words[1]] = key_of(words[2])
        else:
            notices.append((words[1], words[2], key_of(words[3]), tuple(road_of(words))))
    return (key_of(rows[0][1]), choice, notices)


def left_out(book, work, folder):
    return [notice for notice in notices_of(book, work, folder[0], folder[1]) if notice not in folder[2]]


def spare(book, work, folder):
    notices = notices_of(book, work, folder[0], folder[1])
    return [row for row in folder[2] if row not in notices]


def is_known_key(book, thing):
    return is_key(thing) and thing in book.all_keys()


def lets_by(book, work, folder):
    need_known(book, work)
    if not isinstance(folder, tuple) or len(folder) != 3:
        return False
    if not is_known_key(book, folder[0]) or not choice_fits(book, work, folder[0], folder[1]):
        return False
    return isinstance(folder[2], list) and not left_out(book, work, folder)
