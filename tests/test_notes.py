"""Promise [11]: groves written as texts, and texts read back."""

import itertools
import unittest

from tests.samples import GROVES, chain, is_tree, plain_text, small_groves
from turnrow.errors import NoText
from turnrow.notes import read, shown

SIGNS = ["\t", "\n"] + [chr(code) for code in range(ord(" "), ord("~") + 1) if chr(code) not in "()%"]
FITTING = ("()", "()()", "(())", "(()())()", "()" * 60, "(" * 60 + ")" * 60, "(" + "()" * 59 + ")")


class Shown(unittest.TestCase):
    def test_texts_written_out(self):
        self.assertEqual(shown([()]), "()")
        self.assertEqual(shown([(), ()]), "()()")
        self.assertEqual(shown([((),)]), "(())")
        self.assertEqual(shown([((), ()), ()]), "(()())()")
        self.assertEqual(shown([(), ((), ())]), "()(()())")
        self.assertEqual(shown([((), ((),), ()), ((),)]), "(()(())())(())")

    def test_sixty_nodes(self):
        self.assertEqual(shown(GROVES["60 trees"]), "()" * 60)
        self.assertEqual(shown(GROVES["one tree 60 deep"]), "(" * 60 + ")" * 60)
        self.assertEqual(shown(GROVES["one tree of 59 boughs"]), "(" + "()" * 59 + ")")

    def test_samples_and_small_groves(self):
        for grove in list(GROVES.values()) + small_groves(7):
            self.assertEqual(shown(grove), plain_text(grove))

    def test_groves_somewhat_beyond_the_bounds_are_taken(self):
        self.assertEqual(shown([()] * 61), "()" * 61)
        self.assertEqual(shown([chain(90)]), "(" * 90 + ")" * 90)


class Read(unittest.TestCase):
    def check_back(self, grove):
        told = read(plain_text(grove))
        self.assertEqual(told, grove)
        self.assertIs(type(told), list)
        self.assertTrue(all(is_tree(tree) for tree in told))
        self.assertEqual(shown(told), plain_text(grove))

    def test_groves_written_out(self):
        self.assertEqual(read("()"), [()])
        self.assertEqual(read("(()())()"), [((), ()), ()])
        self.assertEqual(read("()(()())"), [(), ((), ())])
        self.assertEqual(read("(" * 60 + ")" * 60), [chain(60)])

    def test_samples_and_small_groves(self):
        for grove in list(GROVES.values()) + small_groves(7):
            self.check_back(grove)


class NoTexts(unittest.TestCase):
    def check_refused(self, text):
        with self.subTest(text=text):
            with self.assertRaises(NoText):
                read(text)

    def test_no_sign(self):
        self.check_refused("")

    def test_brackets_that_do_not_fit(self):
        for text in ("(", ")", "((", "))", ")(", "(()", "())", "())(", "()(", "())()", "()(()", "(()))(()", ")()(",
                     "(" * 60, ")" * 60, "(" * 60 + ")" * 59, "(" * 60 + ")" * 61, ")" * 60 + "(" * 60,
                     "()" * 59 + "(", "()" * 60 + ")", "()" * 59 + ")("):
            self.check_refused(text)
        for text in FITTING:
            self.check_refused(text + ")")
            self.check_refused(")" + text)
            self.check_refused("(" + text)
            self.check_refused(text[1:])
            self.check_refused(text[:-1])

    def test_any_other_sign(self):
        for sign in SIGNS:
            self.check_refused(sign)
            self.check_refused(sign * 300)
            for text in FITTING:
                for place in (0, 1, len(text) // 2, len(text) - 1, len(text)):
                    self.check_refused(text[:place] + sign + text[place:])
                self.check_refused(sign + text[1:])
                self.check_refused(text[:-1] + sign)

    def test_other_signs_about_every_place(self):
        text = "(()(())())(())"
        for sign in ("x", "0", " ", "\t", "\n", "[", "]", "{", "}", "<", ",", "\n\n", "  "):
            for place in range(len(text) + 1):
                self.check_refused(text[:place] + sign + text[place:])

    def test_more_than_sixty_nodes(self):
        for nodes in (61, 62, 75, 100, 150):
            self.check_refused("()" * nodes)
            self.check_refused("(" * nodes + ")" * nodes)
            self.check_refused("(" + "()" * (nodes - 1) + ")")
            self.check_refused("(" * 30 + ")" * 30 + "()" * (nodes - 30))

    def test_texts_of_three_hundred_signs(self):
        for text in ("(" * 300, ")" * 300, "()" * 150, "(" * 150 + ")" * 150, ")" * 150 + "(" * 150, " " * 300,
                     "()" * 60 + " " * 180, " " * 180 + "()" * 60, "x" * 298 + "()", "()" + "\n" * 298,
                     "(" * 60 + ")" * 240, "(" * 60 + " " * 180 + ")" * 60):
            self.assertEqual(len(text), 300)
            self.check_refused(text)

    def check_taken_where_it_fits(self, text, fitting):
        if text in fitting:
            self.assertEqual(shown(read(text)), text)
        else:
            with self.assertRaises(NoText):
                read(text)

    def test_all_short_texts(self):
        fitting = {plain_text(grove) for grove in small_groves(6)}
        for length in range(13):
            for signs in itertools.product("()", repeat=length):
                self.check_taken_where_it_fits("".join(signs), fitting)
        for length in range(7):
            for signs in itertools.product("() a\n", repeat=length):
                self.check_taken_where_it_fits("".join(signs), fitting)


if __name__ == "__main__":
    unittest.main()
