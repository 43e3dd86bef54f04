"""Points 26 to 28, and 2, 6 and 7 where they speak of them: the texts of books, written and read."""

import itertools
import random
import unittest

from grantweave.book import Book
from grantweave.booktext import read_book, show_book
from grantweave.errors import BadTerms, BadText, Doubled, NoDay, TooMany
from grantweave.licences import Licence
from tests.helping import DEEDS, JOINS, ODD_THINGS, Refusing, licence

SIX = ["open", "named", "kept", "shown", "paid", "z"]
DUTIES = ["list", "copy", "quote", "open", "mail", "abcdefgh"]
HEAD = "strings open named kept\nduties list copy quote"
SECTIONS = ["licence share.2", "lets use give join change", "strings open", "bars named", "reach joined", "same",
            "called", "beside list", "joined", "changed copy", "from 5 to 800", "ends"]
ROW = " ; ".join(SECTIONS)
MAY_GO = ["use", "give", "join", "change", "open", "named", "list", "copy"]
MAY_CHANGE_PLACES = [{"use", "give", "join", "change"}, {"open", "named"}, {"list", "copy"}, {"5", "800"}]
FREE = "licence free.1 ; lets use ; strings ; bars ; reach called ; free ; called ; beside ; joined ; changed ; from 0 to 9999 ; lasting"


def told_book(book):
    return (book.string_names(), book.duty_names(), [book.licence(key).told() for key in book.all_keys()])


def row_with(place, section):
    return " ; ".join(SECTIONS[:place] + [section] + SECTIONS[place + 1:])


class Writing(Refusing):
    def row(self, due, **fields):
        book = Book(SIX, DUTIES, [licence(("a", 7), **fields)])
        rows = show_book(book).split("\n")
        self.assertEqual(len(rows), 3)
        sections = rows[2].split(" ; ")
        self.assertEqual(len(sections), 12)
        place, section = due
        self.assertEqual(sections[place], section)
        self.assertEqual(told_book(read_book(show_book(book))), told_book(book))

    def test_the_book_of_nothing(self):
        self.alike(show_book(Book([], [], [])), "strings\nduties")

    def test_names_alone(self):
        self.alike(show_book(Book(["open"], [], [])), "strings open\nduties")
        self.alike(show_book(Book([], ["list", "copy"], [])), "strings\nduties list copy")
        self.alike(show_book(Book(SIX, DUTIES, [])), "strings open named kept shown paid z\n"
                                                     "duties list copy quote open mail abcdefgh")

    def test_a_licence_without_strings_and_duties(self):
        self.alike(show_book(Book([], [], [licence(("free", 1), lets=1)])), "strings\nduties\n" + FREE)

    def test_a_whole_book(self):
        one = Licence(("share", 2), 15, 1, 2, 2, True, [0, 1, 1, 3], 5, 800, False)
        book = Book(["open", "named", "kept"], ["list", "copy", "quote"], [one, licence(("free", 1), lets=1)])
        self.alike(show_book(book), HEAD + "\n" + ROW + "\n" + FREE)

    def test_licences_in_the_order_of_the_book(self):
        keys = [("b", 2), ("a", 9), ("b", 1), ("a", 10)]
        rows = show_book(Book([], [], [licence(key) for key in keys])).split("\n")
        self.assertEqual([row.split(" ")[1] for row in rows[2:]], ["b.2", "a.9", "b.1", "a.10"])

    def test_every_mask_of_deeds(self):
        for lets in range(32):
            self.row((1, " ".join(["lets"] + [DEEDS[bit] for bit in range(5) if lets & 2 ** bit])), lets=lets)

    def test_every_mask_of_strings(self):
        for mask in range(64):
            names = [SIX[bit] for bit in range(6) if mask & 2 ** bit]
            self.row((2, " ".join(["strings"] + names)), strings=mask)
            self.row((3, " ".join(["bars"] + names)), bars=mask)
            self.row((2, " ".join(["strings"] + names)), strings=mask, bars=63 - mask)

    def test_every_reach(self):
        for reach in range(4):
            self.row((4, "reach " + JOINS[reach]), reach=reach)

    def test_same_and_lasting(self):
        self.row((5, "same"), same=True)
        self.row((5, "free"), same=False)
        self.row((11, "lasting"), lasting=True)
        self.row((11, "ends"), lasting=False)

    def test_every_mask_of_duties_at_each_closeness(self):
        for mask in range(64):
            names = [DUTIES[bit] for bit in range(6) if mask & 2 ** bit]
            for place in range(4):
                asks = [0] * place + [mask] * (4 - place)
                for other in range(4):
                    due = " ".join([JOINS[other]] + (names if other == place else []))
                    self.row((6 + other, due), asks=asks)

    def test_duties_stand_where_they_are_asked_first(self):
        for place, due in enumerate(["called copy", "beside list", "joined", "changed quote abcdefgh"]):
            self.row((6 + place, due), asks=[2, 3, 3, 39])

    def test_days(self):
        for first, last in [(0, 0), (0, 9999), (9999, 9999), (1, 10), (99, 100), (1000, 2000)]:
            self.row((10, "from {} to {}".format(first, last)), first=first, last=last)

    def test_keys(self):
        for key, text in [(("a", 0), "a.0"), (("abcdefgh", 99), "abcdefgh.99"), (("licence", 10), "licence.10")]:
            self.assertEqual(show_book(Book([], [], [licence(key)])).split("\n")[2].split(" ")[1], text)

    def test_writing_changes_nothing(self):
        book = Book(SIX, DUTIES, [licence(strings=3, asks=[1, 1, 1, 3])])
        before = told_book(book)
        self.assertEqual(show_book(book), show_book(book))
        self.assertEqual(told_book(book), before)


class Reading(Refusing):
    def test_the_book_of_nothing(self):
        self.alike(told_book(read_book("strings\nduties")), ([], [], []))

    def test_it_is_a_book(self):
        book = read_book(HEAD + "\n" + ROW + "\n" + FREE)
        self.assertIsInstance(book, Book)
        self.alike(told_book(book), (["open", "named", "kept"], ["list", "copy", "quote"], [
            (("share", 2), 15, 1, 2, 2, True, (0, 1, 1, 3), 5, 800, False),
            (("free", 1), 1, 0, 0, 0, False, (0, 0, 0, 0), 0, 9999, True)]))

    def test_any_order_within_a_section(self):
        for deeds in itertools.permutations(["use", "give", "join", "change"]):
            for names in itertools.permutations(["open", "kept", "named"]):
                text = HEAD + "\n" + row_with(1, " ".join(("lets",) + deeds)).replace("strings open", " ".join(
                    ("strings",) + names)).replace("bars named", "bars")
                one = read_book(text).licence(("share", 2))
                self.assertEqual((one.lets, one.strings, one.bars), (15, 7, 0))
        for names in itertools.permutations(["quote", "list", "copy"]):
            row = row_with(6, " ".join(("called",) + names)).replace("beside list", "beside").replace(
                "changed copy", "changed")
            self.assertEqual(read_book(HEAD + "\n" + row).licence(("share", 2)).asks, (7, 7, 7, 7))
        row = row_with(3, "bars kept named")
        self.assertEqual(read_book(HEAD + "\n" + row).licence(("share", 2)).bars, 6)
        row = row_with(9, "changed quote copy")
        self.assertEqual(read_book(HEAD + "\n" + row).licence(("share", 2)).asks, (0, 1, 1, 7))

    def test_names_that_are_words_of_the_text(self):
        for words in (["strings", "lets", "use", "same", "lasting", "to"],
                      ["called", "beside", "joined", "changed", "from", "bars"]):
            for asks in ([1, 3, 7, 63], [8, 12, 14, 63], [2, 3, 7, 15]):
                book = Book(words, words, [licence(("licence", 1), strings=7, bars=56, asks=asks)])
                text = show_book(book)
                self.assertEqual(told_book(read_book(text)), told_book(book))
                self.assertEqual(show_book(read_book(text)), text)

    def test_books_that_are_read_alike_have_nothing_in_common(self):
        one, other = read_book(HEAD + "\n" + ROW), read_book(HEAD + "\n" + ROW)
        one.string_names().clear()
        one.all_keys().append(5)
        self.assertEqual(told_book(one), told_book(other))

    def test_the_largest_book_is_written_and_read_again(self):
        licences = [licence(("abcdefgh", 80 + place), 31, place, 63 - place, place // 3, place % 2 == 0,
                            [place, place, 15, 63], place, 9999 - place, place % 3 == 0) for place in range(12)]
        book = Book(SIX, DUTIES, licences)
        text = show_book(book)
        self.assertLessEqual(len(text), 8000)
        self.assertEqual(len(text.split("\n")), 14)
        self.alike(told_book(read_book(text)), told_book(book))
        self.alike(show_book(read_book(text)), text)

    def test_many_books_are_written_and_read_again(self):
        chance = random.Random(28)
        for turn in range(300):
            strings = chance.sample(SIX, chance.randrange(7))
            duties = chance.sample(DUTIES, chance.randrange(7))
            licences = []
            for number in range(chance.randrange(13)):
                laid = chance.randrange(2 ** len(strings))
                asks = [chance.randrange(2 ** len(duties))]
                for step in range(3):
                    asks.append(asks[-1] | chance.randrange(2 ** len(duties)))
                first, last = sorted([chance.randrange(10000), chance.randrange(10000)])
                licences.append(Licence((chance.choice(["a", "free", "abcdefgh"]), number * 8), chance.randrange(32), laid,
                                        chance.randrange(2 ** len(strings)) & ~laid, chance.randrange(4),
                                        chance.random() < 0.5, asks, first, last, chance.random() < 0.5))
            book = Book(strings, duties, licences)
            text = show_book(book)
            again = read_book(text)
            self.alike(told_book(again), told_book(book))
            self.alike(show_book(again), text)
            for key in book.all_keys():
                self.assertEqual(again.coverers(key), book.coverers(key))


class RowsWithoutForm(Refusing):
    def bad(self, line, text):
        self.refused(BadText, line, lambda: read_book(text))

    def bad_row(self, row):
        """The row is refused at the place of a licence, whichever other good rows stand around it."""
        self.bad(2, HEAD + "\n" + row)
        self.bad(3, HEAD + "\n" + FREE + "\n" + row)
        self.bad(2, HEAD + "\n" + row + "\n" + FREE)
        self.bad(2, HEAD + "\n" + row + "\n" + row)

    def bad_section(self, place, *sections):
        for section in sections:
            self.bad_row(row_with(place, section))

    def test_what_is_no_text(self):
        for thing in ODD_THINGS + [Book([], [], []), ["strings", "duties"], ("strings\nduties",)]:
            if not isinstance(thing, str):
                self.bad(0, thing)

    def test_row_nought(self):
        for row in ["", " ", "string", "Strings", "strings ", " strings", "strings  open", "strings open ", "strings Open",
                    "strings open;", "strings ;", "strings open.1", "strings abcdefghi", "strings a1", "duties", "open",
                    "strings - a", "stringsopen", "strings open ; named", "strings\\"]:
            self.bad(0, row + "\nduties")
            self.bad(0, row + "\nduties\n" + FREE)
            self.bad(0, row + "\nwrong")
            self.bad(0, row)

    def test_row_one(self):
        for row in ["", " ", "duty", "duties ", " duties", "duties  list", "duties list ", "duties List", "duties list;",
                    "duties ;", "duties abcdefghi", "strings", "strings list", "list", "duties 1", FREE]:
            self.bad(1, "strings open\n" + row)
            self.bad(1, "strings open\n" + row + "\nwrong")
            self.bad(1, "strings open\n" + row + "\n" + FREE)

    def test_one_row_only(self):
        self.bad(1, "strings")
        self.bad(1, "strings open named")
        self.bad(1, "strings\n")

    def test_rows_without_signs(self):
        self.bad(0, "")
        self.bad(0, "\n")
        self.bad(0, "\nstrings\nduties")
        self.bad(1, "strings\n\nduties")
        self.bad(2, "strings\nduties\n")
        self.bad(2, "strings\nduties\n\n")
        self.bad(2, "strings\nduties\n\n" + FREE)
        self.bad(3, "strings\nduties\n" + FREE + "\n")
        self.bad(3, HEAD + "\n" + ROW + "\n\n" + FREE)

    def test_rows_at_a_wrong_place(self):
        self.bad(0, "duties list\nstrings open")
        self.bad(0, FREE + "\nstrings\nduties")
        self.bad(1, "strings\n" + FREE + "\nduties")
        self.bad(2, HEAD + "\nduties list")
        self.bad(2, HEAD + "\nstrings open\n" + ROW)
        self.bad(3, HEAD + "\n" + ROW + "\nduties")

    def test_the_first_row_is_told(self):
        rows = HEAD.split("\n") + [FREE.replace("free.1", "free." + str(number)) for number in range(2, 14)]
        for one in range(len(rows)):
            for other in range(one, len(rows)):
                changed = list(rows)
                changed[one] = changed[one] + " 5"
                changed[other] = changed[other] + " 5"
                self.bad(one, "\n".join(changed))

    def test_sections_left_out_doubled_and_exchanged(self):
        for place in range(12):
            self.bad_row(" ; ".join(SECTIONS[:place] + SECTIONS[place + 1:]))
            self.bad_row(" ; ".join(SECTIONS[:place] + [SECTIONS[place]] + SECTIONS[place:]))
            self.bad_row(" ; ".join(SECTIONS[:place] + [""] + SECTIONS[place + 1:]))
            self.bad_row(" ; ".join(SECTIONS[:place] + [";"] + SECTIONS[place + 1:]))
            for other in range(place):
                changed = list(SECTIONS)
                changed[place], changed[other] = changed[other], changed[place]
                self.bad_row(" ; ".join(changed))
        self.bad_row(ROW + " ;")
        self.bad_row("; " + ROW)
        self.bad_row(ROW + " ; ends")

    def test_words_left_out_doubled_exchanged_and_odd(self):
        words = ROW.split(" ")
        for place, word in enumerate(words):
            gone = words[:place] + words[place + 1:]
            if word not in MAY_GO:
                self.bad_row(" ".join(gone))
            self.bad_row(" ".join(words[:place] + [word] + words[place:]))
            for odd in ["", "x", "Use", ";;", word + ";", word.upper(), word + "x", "-", "05", "."]:
                if odd != word:
                    self.bad_row(" ".join(words[:place] + [odd] + words[place + 1:]))
                    self.bad_row(" ".join(words[:place] + [odd] + words[place:]))
            for other in range(place):
                changed = list(words)
                changed[place], changed[other] = changed[other], changed[place]
                if word != words[other] and not any({word, words[other]} <= kin for kin in MAY_CHANGE_PLACES):
                    self.bad_row(" ".join(changed))

    def test_blanks(self):
        words = ROW.split(" ")
        for place in range(1, len(words)):
            self.bad_row(" ".join(words[:place]) + "  " + " ".join(words[place:]))
        self.bad_row(" " + ROW)
        self.bad_row(ROW + " ")
        self.bad_row(ROW.replace(" ; ", ";", 1))
        self.bad_row(ROW.replace(" ; ", "; ", 1))

    def test_heads(self):
        for place, section in enumerate(SECTIONS):
            for head in ["", "x", "licence", "lets", "strings", "bars", "reach", "same", "lasting"] + list(JOINS):
                words = section.split(" ")
                if head != words[0] and not (place == 11 and head == "lasting"):
                    self.bad_section(place, " ".join([head] + words[1:]))

    def test_keys_that_are_none(self):
        self.bad_section(0, "licence", "licence share", "licence share.", "licence .2", "licence share.02", "licence share.100",
                         "licence share.-1", "licence Share.2", "licence share 2", "licence abcdefghi.1", "licence share.2.3",
                         "licence share,2", "licence share.2 free.1", "licence share.00", "licence 2.share")

    def test_deeds_that_are_none_or_stand_twice(self):
        self.bad_section(1, "lets open", "lets Use", "lets use use", "lets use give join change use", "lets uses", "lets called",
                         "lets use, give", "lets lets", "lets use give open")

    def test_strings_that_are_none_or_stand_twice(self):
        for place, head in ((2, "strings"), (3, "bars")):
            self.bad_section(place, head + " list", head + " use", head + " named named", head + " open open",
                             head + " kept kept", head + " shown", head + " kept Open", head + " 0", head + " " + head,
                             head + " kept open kept")

    def test_duties_that_are_none_or_stand_twice(self):
        for place in range(4):
            self.bad_section(6 + place, *[JOINS[place] + " " + words for words in (
                "open", "mail", "quote quote", "list list", "Quote", "use", "0", "quote named", JOINS[place])])

    def test_a_duty_in_two_of_the_four(self):
        for one, other in itertools.combinations(range(4), 2):
            sections = SECTIONS[:6] + list(JOINS) + SECTIONS[10:]
            sections[6 + one] += " quote"
            self.assertEqual(len(read_book(HEAD + "\n" + " ; ".join(sections)).all_keys()), 1)
            sections[6 + other] += " list quote"
            self.bad_row(" ; ".join(sections))

    def test_a_name_of_strings_is_none_of_duties(self):
        self.bad(2, "strings a\nduties b\n" + FREE.replace("strings", "strings b"))
        self.bad(2, "strings a\nduties b\n" + FREE.replace("beside", "beside a"))
        self.assertEqual(read_book("strings a\nduties a\n" + FREE.replace("strings", "strings a").replace(
            "beside", "beside a")).licence(("free", 1)).asks, (0, 1, 1, 1))

    def test_joins_that_are_none(self):
        self.bad_section(4, "reach", "reach 2", "reach Joined", "reach join", "reach joined joined", "reach called beside",
                         "reach use", "reach free")

    def test_same_or_free(self):
        self.bad_section(5, "", "same free", "same same", "Same", "lasting", "fre", "same.1", "true")

    def test_days_that_are_none(self):
        self.bad_section(10, "from 05 to 800", "from 5 to 0800", "from 00 to 800", "from 10000 to 10000", "from 5 to 10000",
                         "from -1 to 800", "from 5 to 800.0", "from a to 800", "from 5 to", "from to 800", "from 5 800",
                         "from 5 to 800 to 900", "to 5 from 800", "from 5 and 800", "from 5", "from +5 to 800",
                         "from 5_0 to 800", "from 5 to 8 0", "from", "from 99999999999999999999 to 800")

    def test_lasting_or_ends(self):
        self.bad_section(11, "", "lasting ends", "end", "Lasting", "lasting lasting", "ends 5", "same")


class ThenRefused(Refusing):
    def head(self, strings, duties):
        return "\n".join([" ".join(["strings"] + strings), " ".join(["duties"] + duties)])

    def bad(self, error, held, text):
        self.refused(error, held, lambda: read_book(text))

    def test_names_as_a_book_refuses_them(self):
        self.bad(TooMany, 7, self.head(SIX + ["more"], []))
        self.bad(TooMany, 8, self.head([], SIX + ["more", "open"]))
        self.bad(TooMany, 300, self.head(["a"] * 300, []))
        self.bad(Doubled, "b", self.head(["a", "b", "b", "a"], []))
        self.bad(Doubled, "a", self.head([], ["a", "b", "c", "a"]))
        self.bad(TooMany, 7, self.head(["a"] * 7, ["b", "b"]))
        self.bad(Doubled, "a", self.head(["a", "a"], ["b"] * 7))

    def test_a_row_without_form_comes_ahead_of_the_names(self):
        for head in (self.head(["a"] * 7, []), self.head([], ["a", "a"]), self.head(SIX + ["more"], SIX + ["more"])):
            self.bad(BadText, 2, head + "\n")
            self.bad(BadText, 3, head + "\n" + FREE + "\n" + FREE + " 5")
        self.bad(BadText, 1, "strings a a\nduties A")

    def test_names_doubled_or_too_many_are_names_to_the_rows(self):
        row = FREE.replace("strings", "strings more").replace("beside", "beside more")
        self.bad(TooMany, 7, self.head(SIX + ["more"], ["more"]) + "\n" + row)
        self.bad(Doubled, "more", self.head(["more", "more"], ["more"]) + "\n" + row)
        self.bad(Doubled, "more", self.head(["more"], ["more", "more"]) + "\n" + row)
        self.bad(BadText, 2, self.head(["a", "a"], []) + "\n" + row)

    def test_licences_as_they_are_refused(self):
        self.bad(BadTerms, (15, 3, 2, 2), HEAD + "\n" + row_with(2, "strings named open"))
        self.bad(BadTerms, (15, 1, 7, 2), HEAD + "\n" + row_with(3, "bars named open kept"))
        self.bad(NoDay, 4, HEAD + "\n" + row_with(10, "from 5 to 4"))
        self.bad(NoDay, 0, HEAD + "\n" + row_with(10, "from 9999 to 0"))
        both = row_with(10, "from 5 to 4").replace("strings open", "strings named")
        self.bad(BadTerms, (15, 2, 2, 2), HEAD + "\n" + both)

    def test_row_by_row(self):
        terms, days = row_with(2, "strings named"), row_with(10, "from 5 to 4")
        self.bad(NoDay, 4, "\n".join([HEAD, FREE, days, terms]))
        self.bad(BadTerms, (15, 2, 2, 2), "\n".join([HEAD, FREE, terms, days]))
        self.bad(BadText, 4, "\n".join([HEAD, terms, days, ROW + " 5"]))

    def test_names_come_ahead_of_licences(self):
        terms = row_with(2, "strings named")
        self.bad(Doubled, "open", "strings open named open\nduties list copy\n" + terms)
        self.bad(Doubled, "list", "strings open named\nduties list copy list\n" + terms)

    def test_licences_come_ahead_of_the_book(self):
        self.bad(Doubled, ("share", 2), "\n".join([HEAD, ROW, FREE, ROW]))
        self.bad(NoDay, 4, "\n".join([HEAD, ROW, ROW, row_with(10, "from 5 to 4")]))
        many = [FREE.replace("free.1", "free." + str(number)) for number in range(13)]
        self.assertEqual(len(read_book("\n".join([HEAD] + many[:12])).all_keys()), 12)
        self.bad(TooMany, 13, "\n".join([HEAD] + many))
        self.bad(TooMany, 13, "\n".join([HEAD] + [FREE] * 13))
        self.bad(NoDay, 4, "\n".join([HEAD] + many + [row_with(10, "from 5 to 4")]))


if __name__ == "__main__":
    unittest.main()
