"""Points 2, 6 and 11 to 13: whole numbers, words, keys, days, masks, and the texts of keys."""

import unittest

from grantweave.errors import NoKey
from grantweave.licences import Licence, Terms
from grantweave.words import (bits_of, is_day, is_key, is_mask, is_whole, is_word, key_of, key_text,
                              least_bit, mask_of)
from tests.helping import THIRTY, nested

TRUTHS = [True, False]
NUMBERS = [-THIRTY, -1, 0, 1, 5, 99, 100, 9999, 10000, THIRTY]
WORDS = ["a", "z", "share", "abcdefgh", "stuvwxyz"]
KEYS = [("a", 0), ("share", 2), ("abcdefgh", 99)]
OTHERS = [
    None, [], {}, (), [0], {"a": 0}, {0: "a"}, (0,), ("a",), ("a", 1, 2), ["a", 1], ["a"], "", "A", "a1", "0",
    "a b", "a\n", "\na", "abcdefghi", nested(29), Terms(0, 0, 0, 0), Licence(("a", 0), 0, 0, 0, 0),
]


class Telling(unittest.TestCase):
    def answers(self, ask, yes, no):
        for thing in yes:
            self.assertIs(ask(thing), True, repr(thing))
        for thing in no:
            self.assertIs(ask(thing), False, repr(thing))

    def test_whole_numbers(self):
        self.answers(is_whole, NUMBERS, TRUTHS + WORDS + KEYS + OTHERS)

    def test_words(self):
        self.answers(is_word, WORDS, TRUTHS + NUMBERS + KEYS + OTHERS)

    def test_every_letter_is_one(self):
        self.answers(is_word, list("abcdefghijklmnopqrstuvwxyz"), [chr(n) for n in range(128) if not 97 <= n <= 122])

    def test_a_word_has_one_to_eight_letters(self):
        self.answers(is_word, ["a" * n for n in range(1, 9)], ["", "a" * 9, "a" * 10, "a" * 8000])

    def test_a_word_has_no_other_sign_at_any_place(self):
        self.answers(is_word, [], [head + sign + tail for sign in "AZ09 \n.-_~`{/" for head, tail in
                                   [("", ""), ("", "abc"), ("ab", "c"), ("abc", "")]])

    def test_lists_and_tuples_of_letters_are_no_words(self):
        self.answers(is_word, [], [["a"], ("a",), ["a", "b"], {"a": 1}])

    def test_days(self):
        self.answers(is_day, [0, 1, 99, 100, 9998, 9999], TRUTHS + WORDS + KEYS + OTHERS + [-1, 10000, THIRTY, -THIRTY])

    def test_keys(self):
        self.answers(is_key, KEYS, TRUTHS + NUMBERS + WORDS + OTHERS)

    def test_a_keys_number_is_from_0_to_99(self):
        self.answers(is_key, [("a", n) for n in range(100)],
                     [("a", n) for n in (-THIRTY, -1, 100, 9999, THIRTY, True, False, None, "1", "", (1,), [1])])

    def test_a_keys_word_is_a_word(self):
        self.answers(is_key, [], [(word, 1) for word in OTHERS + NUMBERS + TRUTHS + KEYS])

    def test_a_key_is_a_tuple_of_two(self):
        self.answers(is_key, [], [(), ("a",), ("a", 1, 1), ("a", 1, None), ["a", 1], {"a": 1}, "a.1", ("a.1",),
                                  (1, "a"), (("a", 1),), [("a", 1)]])

    def test_masks_at_the_bound(self):
        for many in range(65):
            self.answers(lambda thing: is_mask(thing, many), [0, 2 ** many - 1],
                         TRUTHS + WORDS + KEYS + OTHERS + [-1, -THIRTY, 2 ** many, 2 ** many + 1, THIRTY])

    def test_masks_of_few_bits(self):
        for many in range(8):
            for thing in range(-3, 300):
                self.assertIs(is_mask(thing, many), 0 <= thing < 2 ** many, (thing, many))

    def test_masks_of_no_and_of_all_bits(self):
        self.answers(lambda thing: is_mask(thing, 0), [0], [1, 2, -1, True, False])
        self.answers(lambda thing: is_mask(thing, 64), [0, 1, 2 ** 63, 2 ** 64 - 1], [2 ** 64, -1, True, False])

    def test_things_stay_as_they_were(self):
        thing = [["a", 1], {"a": [1]}]
        for ask in (is_whole, is_word, is_key, is_day, lambda found: is_mask(found, 5)):
            ask(thing)
        self.assertEqual(thing, [["a", 1], {"a": [1]}])


class Bits(unittest.TestCase):
    def test_the_mask_0_has_none(self):
        self.assertEqual(bits_of(0), [])
        self.assertIs(least_bit(0), None)
        self.assertEqual(mask_of([]), 0)

    def test_places_rise(self):
        self.assertEqual(bits_of(1), [0])
        self.assertEqual(bits_of(6), [1, 2])
        self.assertEqual(bits_of(41), [0, 3, 5])
        self.assertEqual(bits_of(2 ** 63), [63])
        self.assertEqual(bits_of(2 ** 63 + 2 ** 10 + 1), [0, 10, 63])
        self.assertEqual(bits_of(2 ** 64 - 1), list(range(64)))

    def test_the_least(self):
        self.assertEqual(least_bit(1), 0)
        self.assertEqual(least_bit(6), 1)
        self.assertEqual(least_bit(2 ** 63), 63)
        self.assertEqual(least_bit(2 ** 63 + 2 ** 40), 40)
        self.assertEqual(least_bit(2 ** 64 - 1), 0)

    def test_each_single_bit(self):
        for place in range(64):
            self.assertEqual(bits_of(2 ** place), [place])
            self.assertEqual(least_bit(2 ** place), place)
            self.assertEqual(mask_of([place]), 2 ** place)

    def test_a_bit_is_set_where_the_quotient_is_odd(self):
        for mask in list(range(300)) + [3 ** n for n in range(40)]:
            places = [place for place in range(64) if mask // 2 ** place % 2 == 1]
            self.assertEqual(bits_of(mask), places)
            self.assertEqual(least_bit(mask), places[0] if places else None)
            self.assertEqual(mask_of(places), mask)

    def test_places_in_any_order_and_several_times(self):
        self.assertEqual(mask_of([5, 0, 3]), 41)
        self.assertEqual(mask_of([3, 3, 3]), 8)
        self.assertEqual(mask_of([63, 0, 63, 0]), 2 ** 63 + 1)
        self.assertEqual(mask_of([1, 0, 0, 1, 2, 2]), 7)

    def test_the_numbers_told_are_whole_numbers(self):
        for told in bits_of(2 ** 64 - 1) + [least_bit(1), mask_of([]), mask_of([0])]:
            self.assertIs(type(told), int)

    def test_the_list_handed_in_stays(self):
        places = [4, 1, 4, 63]
        mask_of(places)
        self.assertEqual(places, [4, 1, 4, 63])

    def test_the_told_list_is_the_askers_own(self):
        for mask in (0, 13):
            told = bits_of(mask)
            kept = list(told)
            told.append(7)
            self.assertEqual(bits_of(mask), kept)
            self.assertIsNot(bits_of(mask), bits_of(mask))


class KeyTexts(unittest.TestCase):
    def test_keys_are_written(self):
        for key, text in [(("share", 2), "share.2"), (("a", 0), "a.0"), (("a", 9), "a.9"), (("a", 10), "a.10"),
                          (("abcdefgh", 99), "abcdefgh.99")]:
            self.assertEqual(key_text(key), text)
            self.assertEqual(key_of(text), key)

    def test_every_number_is_written_and_read(self):
        for number in range(100):
            self.assertEqual(key_text(("word", number)), "word." + str(number))
            read = key_of("word." + str(number))
            self.assertEqual(read, ("word", number))
            self.assertIs(type(read), tuple)
            self.assertIs(type(read[1]), int)

    def refused(self, thing):
        with self.assertRaises(NoKey) as caught:
            key_of(thing)
        self.assertEqual(caught.exception.found, thing)
        self.assertIs(type(caught.exception.found), type(thing))

    def test_texts_of_no_key(self):
        for text in ["", ".", "a", "a.", ".1", "1", "a.00", "a.01", "a.09", "a.100", "a.999", "a.1.", "a.1.2", "a..1",
                     ".a.1", "a.b", "a.1b", "a.+1", "a.-1", "a.-0", "+a.1", "a.1\n", "\na.1", "a\n.1", "a.\n1", "a.\n",
                     " a.1", "a.1 ", "a .1", "a. 1", "A.1", "aB.1", "a1.1", "abcdefghi.1", "a,1", "a1", "a.1_", "a.1_0",
                     "a.0x", "a.1e", "1.a", "a/1", "a.:", "a./", "a." + "1" * 30, "a" * 8000]:
            self.refused(text)

    def test_what_is_no_text(self):
        for thing in [None, True, False, 0, 1, -1, THIRTY, ("a", 1), ["a.1"], ("a.1",), {"a.1": 1}, [], (), {},
                      nested(29)]:
            self.refused(thing)

    def test_objects_of_the_package_are_no_texts(self):
        for thing in [Terms(0, 0, 0, 0), Licence(("a", 1), 0, 0, 0, 0)]:
            with self.assertRaises(NoKey) as caught:
                key_of(thing)
            self.assertIs(caught.exception.found, thing)


if __name__ == "__main__":
    unittest.main()
