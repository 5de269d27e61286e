"""Plain, [10] and [11]."""

import unittest

from tests.cases import WardCase
from tests.values import NO_WORDS, no_integers_of
from wardwork.errors import BadArgument
from wardwork.spaces import Plain


class PlainTest(WardCase):
    def test_words_and_zeros(self):
        for pages in range(1, 17):
            for many in (0, 1, 7, 8, 8 * pages - 1, 8 * pages):
                words = list(range(1, many + 1))[:8 * pages]
                plain = Plain(pages, words)
                self.assertEqual(pages, plain.pages)
                self.assertEqual(words + [0] * (8 * pages - len(words)), plain.contents())

    def test_ways_to_hand_in(self):
        self.assertEqual([0] * 8, Plain(1).contents())
        self.assertEqual([0] * 8, Plain(pages=1).contents())
        self.assertEqual([5, 65535] + [0] * 6, Plain(1, (5, 65535)).contents())
        self.assertEqual([5, 65535] + [0] * 14, Plain(words=[5, 65535], pages=2).contents())

    def test_read_and_write(self):
        for pages in (1, 2, 16):
            plain = Plain(pages, [3])
            last = 8 * pages - 1
            self.assertEqual(3, plain.read(0))
            self.assertEqual(0, plain.read(address=last))
            self.assertIsNone(plain.write(last, 65535))
            self.assertIsNone(plain.write(address=0, word=0))
            self.assertEqual([0] * last + [65535], plain.contents())
            self.assertEqual([0] * last + [65535], [plain.read(address) for address in range(last + 1)])

    def test_each_address_has_its_own_word(self):
        plain = Plain(16)
        for address in range(128):
            plain.write(address, 1000 + address)
        self.assertEqual(list(range(1000, 1128)), plain.contents())

    def test_addresses_and_words_are_asked(self):
        for pages in (1, 3, 16):
            plain = Plain(pages, [1, 2])
            wrong = {"address": no_integers_of(0, 8 * pages - 1), "word": NO_WORDS}
            self.refused(plain.read, {"address": 0}, wrong, plain.contents)
            self.refused(plain.write, {"address": 0, "word": 7}, wrong, plain.contents)
            self.raised(BadArgument, {"name": "address"}, plain.read, 8 * pages)

    def test_constructor_is_asked(self):
        wrong_words = [True, False, None, 0, 1, "", "00", [0] * 9, (0,) * 9, [0] * 128]
        wrong_words.extend([[0, part] for part in NO_WORDS] + [(part, 0) for part in NO_WORDS])
        wrong = {"pages": no_integers_of(1, 16), "words": wrong_words}
        self.refused(Plain, {"pages": 1, "words": []}, wrong)
        self.raised(BadArgument, {"name": "words"}, Plain, 16, [0] * 129)
        self.raised(BadArgument, {"name": "words"}, Plain, 2, (0,) * 17)
        # How many words fit is not asked where the pages are wrong.
        self.raised(BadArgument, {"name": "pages"}, Plain, 17, [0] * 136)

    def test_lists_are_neither_kept_nor_handed_out(self):
        words = [1, 2, 3, 4, 5, 6, 7, 8]
        plain = Plain(1, words)
        words[0] = 9
        plain.contents()[1] = 9
        plain.write(2, 9)
        self.assertEqual([1, 2, 9, 4, 5, 6, 7, 8], plain.contents())
        self.assertEqual([9, 2, 3, 4, 5, 6, 7, 8], words)

    def test_memories_are_alone(self):
        words = [4] * 8
        first, second = Plain(1, words), Plain(1, words)
        first.write(0, 1)
        self.assertEqual([4] * 8, second.contents())


if __name__ == "__main__":
    unittest.main()
