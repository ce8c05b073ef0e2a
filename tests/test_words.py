import random
import re
import unittest

from keeper.words import words_of


class WordsTest(unittest.TestCase):
    """Point 25."""

    def test_brackets_and_runs(self):
        for text, words in (
            ("nat", ["nat"]),
            ("(next zero)", ["(", "next", "zero", ")"]),
            ("(all x nat (same nat x 0))", ["(", "all", "x", "nat", "(", "same", "nat", "x", "0", ")", ")"]),
            ("a b", ["a", "b"]),
            ("(", ["("]),
            (")", [")"]),
            ("()", ["(", ")"]),
            (")(", [")", "("]),
            ("((", ["(", "("]),
            ("))", [")", ")"]),
            ("a(b)c", ["a", "(", "b", ")", "c"]),
            ("a(", ["a", "("]),
            (")a", [")", "a"]),
            ("ab((cd", ["ab", "(", "(", "cd"]),
            ("(a)(b)", ["(", "a", ")", "(", "b", ")"]),
            ("( a )", ["(", "a", ")"]),
        ):
            self.assertEqual(words_of(text), words)

    def test_blanks_and_line_ends(self):
        for text, words in (
            ("", []),
            (" ", []),
            ("\n", []),
            (" \n \n\n  ", []),
            (" a", ["a"]),
            ("a ", ["a"]),
            ("\na\n", ["a"]),
            ("a  b", ["a", "b"]),
            ("a\nb", ["a", "b"]),
            ("a\n\n \n b", ["a", "b"]),
            ("  (  a\n)  ", ["(", "a", ")"]),
            ("\n(\n", ["("]),
            ("ab\ncd ef", ["ab", "cd", "ef"]),
        ):
            self.assertEqual(words_of(text), words)

    def test_each_other_sign_is_in_a_run(self):
        others = "".join(chr(code) for code in range(33, 127) if chr(code) not in "()%")
        self.assertEqual(words_of(others), [others])
        for sign in others:
            self.assertEqual(words_of(sign), [sign])
            self.assertEqual(words_of("a" + sign + "(" + sign + "b " + sign), ["a" + sign, "(", sign + "b", sign])
        self.assertEqual(words_of("a,b;c 'd' \"e\" [f] {g} <h> \\n"),
                         ["a,b;c", "'d'", "\"e\"", "[f]", "{g}", "<h>", "\\n"])

    def test_long_runs(self):
        self.assertEqual(words_of("a" * 5000 + ")" + "7" * 5000), ["a" * 5000, ")", "7" * 5000])
        self.assertEqual(words_of("(" * 3000), ["("] * 3000)

    def test_by_another_way(self):
        chance = random.Random(91)
        for count in range(500):
            text = "".join(chance.choice("()ab  \n0~") for sign in range(chance.randrange(30)))
            self.assertEqual(words_of(text), re.findall(r"[()]|[^ \n()]+", text))

    def test_the_list_is_the_askers_own(self):
        told = words_of("(a b)")
        told.append("c")
        told[0] = "d"
        self.assertEqual(words_of("(a b)"), ["(", "a", "b", ")"])
        self.assertEqual(told, ["d", "a", "b", ")", "c"])
        words_of("").append("x")
        self.assertEqual(words_of(""), [])


if __name__ == "__main__":
    unittest.main()
