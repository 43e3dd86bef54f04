"""The texts in which a desk answers."""

from grantweave.booktext import DEED_WORDS, terms_sections
from grantweave.joins import join_words
from grantweave.lines import BETWEEN_ROWS
from grantweave.words import is_key, key_text
from grantweave.worktext import show_work


def thing_text(thing):
    return key_text(thing) if is_key(thing) else str(thing)


def told_row(things):
    return " ".join([thing_text(thing) for thing in things]) if things else "none"


def told_rows(rows):
    return "; ".join([told_row(row) for row in rows]) if rows else "none"


def work_answer(work):
    return show_work(work).replace("\n", BETWEEN_ROWS)


def fault_words(book, fault):
    word = fault[0]
    if word == "same":
        return [word]
    if word == "deed" or word == "lets":
        return [word, DEED_WORDS[fault[1]]]
    if word == "reach":
        return [word, join_words()[fault[1]]]
    return [word, book.string_names()[fault[1]]]


def stopping_row(book, name, faults):
    offers = ", ".join([told_row([offer] + fault_words(book, fault)) for offer, fault in faults])
    return f"{name} {offers}"


def stopping_answer(book, stopping):
    return "; ".join([stopping_row(book, name, faults) for name, faults in stopping]) if stopping else "none"


def own_answer(book, told):
    if told[0] == "own":
        return " ; ".join(["own"] + terms_sections(book, told[2]))
    return told_row(told[:2])


def compared_answer(lost, gained):
    return BETWEEN_ROWS.join([told_rows(lost), told_rows(gained)])
