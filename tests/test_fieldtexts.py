import unittest

from noteboard.fieldtexts import (age_read, block_read, field_read, number_read, shown_age, shown_block, shown_field,
                                  value_read)

FIELDS = [("?", ("any",)), ("$", ("word",)), ("#", ("number",)), ("?n", ("bind", "n")), ("?abcd", ("bind", "abcd")),
          ("=n", ("as", "n")), ("=abcd", ("as", "abcd")), ("+n", ("next", "n")), ("+abcd", ("next", "abcd")),
          ("a", ("is", "a")), ("abcdefgh", ("is", "abcdefgh")), ("any", ("is", "any")), ("word", ("is", "word")),
          ("note", ("is", "note")), ("0", ("is", 0)), ("7", ("is", 7)), ("10", ("is", 10)), ("99", ("is", 99))]
NO_NUMBERS = ["", "00", "01", "09", "007", "100", "-1", "+1", "1.0", "1_0", " 1", "1 ", "a", "1a", "a1", "0x1",
              "9" * 99, "9" * 9999]
NO_FIELDS = ["", "??", "?N", "?1", "?abcde", "$n", "$$", "#1", "##", "=", "==n", "=1", "=abcde", "=N", "+", "++n", "+1",
             "+abcde", "abcdefghi", "A", "aB", "a1", "1a", "00", "01", "100", "-1", "@1", ">1", "a b", " ", "a ", "?n ",
             "=n ", "+n ", "\n", "a\n", "~", "n=", "n?", "=?n", "?=n"]


class FieldTextsTest(unittest.TestCase):
    def test_fields_written_and_read(self):
        for text, field in FIELDS:
            with self.subTest(text=text):
                self.assertEqual(shown_field(field), text)
                self.assertEqual(field_read(text), field)
                self.assertIs(field_read(text).__class__, tuple)

    def test_no_fields(self):
        for text in NO_FIELDS:
            with self.subTest(text=text):
                self.assertIsNone(field_read(text))

    def test_each_number(self):
        for number in range(100):
            self.assertEqual(shown_field(("is", number)), str(number))
            self.assertEqual(field_read(str(number)), ("is", number))
            self.assertEqual(value_read(str(number)), number)
            self.assertIs(value_read(str(number)).__class__, int)

    def test_no_numbers(self):
        for text in NO_NUMBERS:
            with self.subTest(text=text[:20]):
                self.assertIsNone(number_read(text))
                self.assertIsNone(age_read("@" + text))
                self.assertIsNone(block_read(">" + text))

    def test_values(self):
        for text in ("a", "z", "abcdefgh", "hand"):
            self.assertEqual(value_read(text), text)
        for text in ("", "abcdefghi", "A", "a1", "?", "?n", "=n", "+n", "$", "#", "@1", ">1", "a b", "01", "100"):
            self.assertIsNone(value_read(text))

    def test_ages(self):
        for age in range(130):
            self.assertEqual(age_read(f"@{age}"), age if 1 <= age <= 20 else None)
        for age in range(1, 21):
            self.assertEqual(shown_age(age), f"@{age}")
        for text in ("", "@", "1", "20", ">1", "@@1", "@a", "@01", "1@", "@1 "):
            self.assertIsNone(age_read(text))

    def test_blocks(self):
        for block in range(130):
            self.assertEqual(block_read(f">{block}"), block if block <= 99 else None)
        for block in range(100):
            self.assertEqual(shown_block(block), f">{block}")
        for text in ("", ">", "1", "0", "@1", ">>1", ">a", ">01", ">00", "1>", ">1 "):
            self.assertIsNone(block_read(text))


if __name__ == "__main__":
    unittest.main()
