"""The texts of books: writing them and reading them."""

from grantweave.book import Book, kept_duties, kept_strings
from grantweave.errors import BadText
from grantweave.joins import join_of, join_words
from grantweave.licences import Licence
from grantweave.words import bits_of, is_key_text, is_number_text, is_word, key_of, key_text, mask_of

DEED_WORDS = ("use", "give", "join", "change", "sell")
SECTION_COUNT = 12
FIRST_LICENCE_ROW = 2
LONGEST_DAY = 4


def named_section(head, mask, names):
    return " ".join([head] + [names[place] for place in bits_of(mask)])


def terms_sections(book, terms):
    strings = book.string_names()
    reach = join_words()[terms.reach]
    return [named_section("lets", terms.lets, DEED_WORDS), named_section("strings", terms.strings, strings),
            named_section("bars", terms.bars, strings), f"reach {reach}"]


def asks_sections(book, asks):
    sections = []
    asked = 0
    for word, mask in zip(join_words(), asks):
        sections.append(named_section(word, mask & ~asked, book.duty_names()))
        asked = mask
    return sections


def licence_row(book, licence):
    key = key_text(licence.key)
    first = licence.first
    last = licence.last
    sections = [f"licence {key}"] + terms_sections(book, licence)
    sections.append("same" if licence.same else "free")
    sections.extend(asks_sections(book, licence.asks))
    sections.append(f"from {first} to {last}")
    sections.append("lasting" if licence.lasting else "ends")
    return " ; ".join(sections)


def show_book(book):
    rows = [" ".join(["strings"] + book.string_names()), " ".join(["duties"] + book.duty_names())]
    rows.extend([licence_row(book, book.licence(key)) for key in book.all_keys()])
    return "\n".join(rows)


def sections_of(words):
    sections = [[]]
    for word in words:
        if word == ";":
            sections.append([])
        else:
            sections[-1].append(word)
    return sections


def is_named_section(section, head, known):
    if section[:1] != [head]:
        return False
    names = section[1:]
    return all([name in known for name in names]) and len(set(names)) == len(names)


def are_terms_sections(sections, strings):
    if not is_named_section(sections[0], "lets", DEED_WORDS):
        return False
    if not is_named_section(sections[1], "strings", strings) or not is_named_section(sections[2], "bars", strings):
        return False
    return len(sections[3]) == 2 and sections[3][0] == "reach" and sections[3][1] in join_words()


def are_asks_sections(sections, duties):
    named = []
    for word, section in zip(join_words(), sections):
        if not is_named_section(section, word, duties):
            return False
        named.extend(section[1:])
    # A duty stands in one of the four sections at most.
    return len(set(named)) == len(named)


def is_days_section(section):
    if len(section) != 4 or section[0] != "from" or section[2] != "to":
        return False
    return is_number_text(section[1], LONGEST_DAY) and is_number_text(section[3], LONGEST_DAY)


def are_licence_sections(sections, strings, duties):
    if len(sections) != SECTION_COUNT:
        return False
    if len(sections[0]) != 2 or sections[0][0] != "licence" or not is_key_text(sections[0][1]):
        return False
    if not are_terms_sections(sections[1:5], strings) or not are_asks_sections(sections[6:10], duties):
        return False
    if sections[5] != ["same"] and sections[5] != ["free"]:
        return False
    return is_days_section(sections[10]) and (sections[11] == ["lasting"] or sections[11] == ["ends"])


def section_mask(section, known):
    return mask_of([known.index(name) for name in section[1:]])


def asks_of(sections, duties):
    asks = []
    asked = 0
    for section in sections:
        asked = asked | section_mask(section, duties)
        asks.append(asked)
    return asks


def licence_of(sections, strings, duties):
    lets = section_mask(sections[1], DEED_WORDS)
    laid = section_mask(sections[2], strings)
    bars = section_mask(sections[3], strings)
    reach = join_of(sections[4][1]).closeness()
    days = sections[10]
    return Licence(key_of(sections[0][1]), lets, laid, bars, reach, sections[5] == ["same"],
                   asks_of(sections[6:10], duties), int(days[1]), int(days[3]), sections[11] == ["lasting"])


def names_at(rows, place, head):
    if place >= len(rows) or rows[place][0] != head:
        raise BadText(place)
    names = rows[place][1:]
    if not all([is_word(name) for name in names]):
        raise BadText(place)
    return names


def licences_at(rows, strings, duties):
    found = []
    for place in range(FIRST_LICENCE_ROW, len(rows)):
        sections = sections_of(rows[place])
        if not are_licence_sections(sections, strings, duties):
            raise BadText(place)
        found.append(sections)
    return found


def read_book(text):
    if not isinstance(text, str):
        raise BadText(0)
    rows = [row.split(" ") for row in text.split("\n")]
    strings = names_at(rows, 0, "strings")
    duties = names_at(rows, 1, "duties")
    found = licences_at(rows, strings, duties)
    # All rows have their form by here; only now the names are looked at as those of a book.
    kept_strings(strings)
    kept_duties(duties)
    return Book(strings, duties, [licence_of(sections, strings, duties) for sections in found])
