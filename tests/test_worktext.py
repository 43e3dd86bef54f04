"""Points 44 and 45, and 2, 4 and 7 where they speak of them: the texts of works, written and read."""

import random
import unittest

from grantweave.errors import BadOffers, BadText, Doubled, TooDeep, TooMany
from grantweave.works import Part
from grantweave.worktext import read_work, show_work
from tests.helping import JOINS, LETTERS, ODD_THINGS, Refusing, any_work, part_name

FREE, SHARE = ("free", 1), ("share", 2)
ROWS = ["app free.1", "- joined core", "-- called clock free.1 share.2", "--- changed deep share.2", "-- beside art",
        "- changed base share.2 free.1"]
TEXT = "\n".join(ROWS)


def sample():
    clock = Part("clock", [FREE, SHARE], [("changed", Part("deep", [SHARE]))])
    core = Part("core", [], [("called", clock), ("beside", Part("art"))])
    return Part("app", [FREE], [("joined", core), ("changed", Part("base", (SHARE, FREE)))])


def six_deep():
    part = Part(part_name(5), [("abcdefgh", 99), ("a", 0)])
    for number in range(4, -1, -1):
        part = Part(part_name(number), [], [(JOINS[number % 4], part)])
    return part


def thirty():
    rows = []
    for step, many in enumerate((4, 4, 4, 4, 4, 3)):
        inner = [(JOINS[at], Part(part_name(10 * step + at), [FREE, SHARE][:at % 3])) for at in range(many)]
        rows.append((JOINS[step % 4], Part("q" + LETTERS[step], None, inner)))
    return Part("top", [SHARE], rows)


class Writing(Refusing):
    def test_the_words_of_the_document(self):
        core = Part("core", None, [("called", Part("clock", [FREE, SHARE]))])
        work = Part("app", [FREE], [("joined", core)])
        self.alike(show_work(work), "app free.1\n- joined core\n-- called clock free.1 share.2")

    def test_one_part(self):
        self.alike(show_work(Part("a")), "a")
        self.alike(show_work(Part("a", [FREE])), "a free.1")
        self.alike(show_work(Part("abcdefgh", [SHARE, ("abcdefgh", 99)])), "abcdefgh share.2 abcdefgh.99")

    def test_a_whole_work(self):
        self.alike(show_work(sample()), TEXT)

    def test_six_deep(self):
        self.alike(show_work(six_deep()), "paa\n- called pab\n-- beside pac\n--- joined pad\n---- changed pae\n"
                                          "----- called paf abcdefgh.99 a.0")

    def test_each_join(self):
        for word in JOINS:
            self.alike(show_work(Part("a", [], [(word, Part("b"))])), "a\n- " + word + " b")

    def test_thirty_parts(self):
        work = thirty()
        rows = show_work(work).split("\n")
        self.assertEqual(len(rows), 30)
        self.assertEqual(rows[:5], ["top share.2", "- called qa", "-- called paa", "-- beside pab free.1",
                                    "-- joined pac free.1 share.2"])
        for row, word in zip(rows, work.all_names()):
            self.assertIn(word, row.split(" "))

    def test_a_part_looked_at_as_a_top(self):
        self.alike(show_work(sample().at("core")), "core\n- called clock free.1 share.2\n-- changed deep share.2\n- beside art")

    def test_writing_changes_nothing(self):
        work = sample()
        self.assertEqual(show_work(work), show_work(work))
        self.assertEqual(work.told(), sample().told())


class Reading(Refusing):
    def again(self, work):
        text = show_work(work)
        made = read_work(text)
        self.assertIsInstance(made, Part)
        self.alike(made.told(), work.told())
        self.alike(show_work(made), text)

    def test_written_and_read_again(self):
        for work in (Part("a"), Part("a", [FREE]), Part("called", [SHARE, FREE]), sample(), six_deep(), thirty(),
                     sample().at("core")):
            self.again(work)

    def test_many_works_written_and_read_again(self):
        chance = random.Random(45)
        for turn in range(300):
            self.again(any_work(chance, [FREE, SHARE, ("a", 0), ("abcdefgh", 99)], chance.randrange(1, 31)))

    def test_thirty_parts_at_most_six_beneath(self):
        rows = ["top"]
        for step in range(29):
            rows.append("- joined " + part_name(step) if step % 6 == 0 else "-- beside " + part_name(step) + " free.1")
        work = read_work("\n".join(rows))
        self.assertEqual(len(work.all_names()), 30)
        self.assertEqual(show_work(work), "\n".join(rows))

    def test_beneath_the_last_row_with_one_stroke_less(self):
        work = read_work("a\n- called b\n-- called c\n--- called d\n- called e\n-- called f\n-- called g\n- called h")
        roads = {word: [pair[1] for pair in work.road(word)] for word in work.all_names()}
        self.assertEqual(roads, {"a": [], "b": ["b"], "c": ["b", "c"], "d": ["b", "c", "d"], "e": ["e"], "f": ["e", "f"],
                                 "g": ["e", "g"], "h": ["h"]})

    def test_strokes_that_go_back_by_several(self):
        text = "a\n- called b\n-- called c\n--- called d\n---- called e\n- called f\n-- joined g"
        self.assertEqual(show_work(read_work(text)), text)
        self.assertEqual(read_work(text).road("g"), [("called", "f"), ("joined", "g")])

    def test_names_that_are_words_of_joins(self):
        text = "called\n- called beside\n- beside joined a.1\n-- joined changed"
        self.assertEqual(show_work(read_work(text)), text)

    def test_works_that_are_read_alike_have_nothing_to_change(self):
        one, other = read_work(TEXT), read_work(TEXT)
        one.all_names().clear()
        one.road("deep").clear()
        self.assertEqual(one.told(), other.told())


class RowsWithoutForm(Refusing):
    def bad(self, line, text):
        self.refused(BadText, line, lambda: read_work(text))

    def test_what_is_no_text(self):
        for thing in ODD_THINGS + [sample(), ROWS, ("a",), ["a"]]:
            if not isinstance(thing, str):
                self.bad(0, thing)

    def test_row_nought(self):
        for row in ["", " ", "-", "- a", "- called a", "-a", "A", "a ", " a", "a  free.1", "a free.1 ", "a free", "a free.01",
                    "a free.100", "a free.1 share.2 b.1", "a free.1 b", "a b", "abcdefghi", "a1", "a.1", "a;", "a free.1share.2",
                    "a free.1  share.2", "a -", "a free.", "a .1", "a Free.1", "/", "a /", "free.1", "free.1 a"]:
            self.bad(0, row)
            self.bad(0, row + "\n- called b")
            self.bad(0, row + "\nwrong\n")

    def test_a_later_row(self):
        for row in ["", " ", "-", "- ", "called b", "b", "- b", "- called", "- called ", "- call b", "- Called b", "-called b",
                    "- called B", "- called b ", " - called b", "-  called b", "- called  b", "- called b  free.1",
                    "- called b free.1 ", "- called b free", "- called b free.01", "- called b free.1 share.2 a.1",
                    "- called b free.1 share.2 ", "- called b c", "- called free.1", "- called b.1", "- called - b",
                    "- b called", "called - b", "-- called b", "--- called b", "-+ called b", "_ called b", "+ called b",
                    "-a called b", "- - called b", "-.called b", "1 called b", "- called called called", "- 0 b",
                    "- called abcdefghi", "- called b free.1 share", "- called b share free.1", "- 1 b", "--"]:
            self.bad(1, "a\n" + row)
            self.bad(1, "a free.1\n" + row + "\n- called c")
            self.bad(1, "a free.1\n" + row + "\nwrong")

    def test_strokes(self):
        self.bad(1, "a\n-- called b")
        self.bad(2, "a\n- called b\n--- called c")
        self.bad(3, "a\n- called b\n-- called c\n---- called d")
        self.bad(4, "a\n- called b\n-- called c\n- called d\n--- called e")
        self.bad(2, "a\n- called b\ncalled c")
        self.bad(2, "a\n- called b\nc")
        self.bad(0, "-\n- called b")

    def test_rows_without_signs(self):
        self.bad(0, "")
        self.bad(0, "\n")
        self.bad(0, "\na")
        self.bad(1, "a\n")
        self.bad(1, "a\n\n")
        self.bad(1, "a\n\n- called b")
        self.bad(6, TEXT + "\n")
        self.bad(6, TEXT + "\n\n")
        self.bad(2, "a\n- called b\n \n- called c")

    def test_the_first_row_is_told(self):
        for one in range(len(ROWS)):
            for other in range(one, len(ROWS)):
                rows = list(ROWS)
                rows[one] += " 5"
                rows[other] += " 5"
                self.bad(one, "\n".join(rows))
                rows[one] = " " + ROWS[one]
                self.bad(one, "\n".join(rows))

    def test_words_left_out_doubled_and_odd(self):
        for place, row in enumerate(ROWS):
            words = row.split(" ")
            for at, word in enumerate(words):
                changed = [words[:at] + [odd] + words[at + 1:] for odd in ("", "5", "Ab", "-.", word + "/", word + "5.5")]
                changed += [words[:at] + [""] + words[at:], words[:at] + ["5"] + words[at:]]
                if "." not in word:
                    changed.append(words[:at] + words[at + 1:])
                    changed.append(words[:at] + [word] + words[at:])
                for now in changed:
                    self.bad(place, "\n".join(ROWS[:place] + [" ".join(now)] + ROWS[place + 1:]))

    def test_a_form_comes_ahead_of_what_parts_refuse(self):
        self.bad(3, "a\n- called a\n- called b free.1 free.1\n- called")
        self.bad(8, "a\n" + "\n".join(["- called b"] * 7) + "\n")


class ThenRefused(Refusing):
    def bad(self, error, held, text):
        self.refused(error, held, lambda: read_work(text))

    def test_offers_are_told_as_a_list(self):
        self.bad(BadOffers, [FREE, FREE], "a free.1 free.1")
        self.bad(BadOffers, [SHARE, SHARE], "a\n- called b share.2 share.2")

    def test_names_that_stand_twice(self):
        self.bad(Doubled, "a", "a\n- called a")
        self.bad(Doubled, "b", "a\n- called b\n- called b")
        self.bad(Doubled, "b", "a\n- called b\n-- called c\n--- called b")
        self.bad(Doubled, "c", "a\n- called b\n-- called c\n- called c\n- called b")

    def test_seven_right_beneath(self):
        rows = ["- called " + part_name(number) for number in range(9)]
        self.assertEqual(len(read_work("\n".join(["a"] + rows[:6])).beneath), 6)
        self.bad(TooMany, 7, "\n".join(["a"] + rows[:7]))
        self.bad(TooMany, 9, "\n".join(["a"] + rows))

    def test_thirty_one_parts(self):
        rows = ["a"]
        for number in range(31):
            rows.append("- called " + part_name(number) if number % 6 == 0 else "-- called " + part_name(number))
        self.assertEqual(len(read_work("\n".join(rows[:30])).all_names()), 30)
        self.bad(TooMany, 31, "\n".join(rows[:31]))
        self.bad(TooMany, 32, "\n".join(rows))

    def test_seven_deep(self):
        rows = ["a"] + ["-" * number + " called " + part_name(number) for number in range(1, 9)]
        self.assertEqual(len(read_work("\n".join(rows[:6])).all_names()), 6)
        self.bad(TooDeep, 7, "\n".join(rows[:7]))
        self.bad(TooDeep, 7, "\n".join(rows))

    def test_parts_are_made_from_the_last_row_on(self):
        self.bad(BadOffers, [SHARE, SHARE], "a free.1 free.1\n- called b share.2 share.2")
        self.bad(BadOffers, [FREE, FREE], "a\n- called b share.2 share.2\n- called c free.1 free.1")
        self.bad(BadOffers, [FREE, FREE], "a\n- called a free.1 free.1")
        self.bad(Doubled, "c", "a free.1 free.1\n- called b\n-- called c\n-- called c")
        self.bad(Doubled, "c", "a\n- called a\n- called b\n-- called c\n--- called c")
        self.bad(Doubled, "b", "a\n- called a\n- called b\n-- called b\n-- called c free.1")
        self.bad(BadOffers, [FREE, FREE], "a\n- called b\n-- called b\n- called c free.1 free.1")
        self.bad(BadOffers, [FREE, FREE], "a\n- called b free.1 free.1\n-- called b\n- called c")

    def test_a_long_text(self):
        text = "a\n" + "\n".join(["- called b"] * 700)
        self.assertLessEqual(len(text), 8000)
        self.bad(TooMany, 700, text)
        strokes = "a\n" + "\n".join("-" * number + " called b" for number in range(1, 115))
        self.assertLessEqual(len(strokes), 8000)
        self.bad(Doubled, "b", strokes)


if __name__ == "__main__":
    unittest.main()
