"""Promise 4: what a name is."""

import string
import unittest

from dueworth.words import is_name

KEPT = ("jars", "deed", "rest", "pay", "put", "then", "either", "take", "often", "use")
NO_LETTERS = tuple("AZM09_-+ /()%:.~'\n\t\r\0") + ("\u00e4", "\u00df", "\u0430", "\uff41", "\u00aa", "\u0301", "`", "{")


class TestNames(unittest.TestCase):
    def test_length(self):
        self.assertIs(is_name(""), False)
        for count in range(1, 7):
            self.assertIs(is_name("abcxyzq"[:count]), True)
            self.assertIs(is_name("z" * count), True)
        for count in (7, 8, 100, 10 ** 5):
            self.assertIs(is_name("a" * count), False)

    def test_each_small_letter_is_one_at_any_place(self):
        for letter in string.ascii_lowercase:
            self.assertIs(is_name(letter), True)
            for place in range(6):
                self.assertIs(is_name("q" * place + letter + "q" * (5 - place)), True)

    def test_kept_words_are_none(self):
        for word in KEPT:
            self.assertIs(is_name(word), False)

    def test_kept_words_with_a_letter_more_less_or_otherwise(self):
        near = set()
        for word in KEPT:
            for place in range(len(word) + 1):
                near.add(word[:place] + "q" + word[place:])
            for place in range(len(word)):
                near.add(word[:place] + word[place + 1:])
                near.add(word[:place] + "q" + word[place + 1:])
        for text in sorted(near - set(KEPT)):
            self.assertIs(is_name(text), 1 <= len(text) <= 6, text)

    def test_other_signs_at_any_place(self):
        for sign in NO_LETTERS:
            self.assertIs(is_name(sign), False, repr(sign))
            for place in range(6):
                text = "abcde"[:place] + sign + "abcde"[place:]
                self.assertIs(is_name(text), False, repr(text))
            for word in KEPT:
                self.assertIs(is_name(sign + word), False)
                self.assertIs(is_name(word + sign), False)

    def test_asked_again(self):
        self.assertEqual([is_name("oil"), is_name("use")] * 3, [True, False] * 3)


if __name__ == "__main__":
    unittest.main()
