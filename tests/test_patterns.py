import random
import re
import unittest

from helper import PATH, PATTERN, last, match

LONGEST = "/".join(["a" * 32, "b" * 32, "c" * 30])

GOOD = [
    "a", "a" * 32, "*" + "a" * 31, "a" * 31 + "*", LONGEST, LONGEST[:-1] + "*", "a/b/c/d/e/f/g/h", "*/*/*/*/*/*/*/*",
    "*", "a*", "*a", "*a*", "a*b*c*d*e", "*a*b*c*", "*a*b*c*/*a*b*c*/*a*b*c*",
    "**", "**/**", "**/a", "a/**", "a/**/b", "**/a/**", "a/**/**/b", "**/*", "*/**", "**/a/b/c/d/e/f/**", "a*/**/*a",
    ".", "..", "...", "./a", "a/..", "../..", ".*", "*.", ".*.", "-", "_", "A.Z-a_z0*9",
]
BAD = [
    "", "/", "//", "a/", "/a", "a//b", "/a/", "**/", "/**", "*/", "/*", "**//**", "a" * 33, "*" + "a" * 32,
    "b/" + "a" * 33, "a" * 33 + "/b", LONGEST + "c", LONGEST + "*", "a/b/c/d/e/f/g/h/i", "*/*/*/*/*/*/*/*/*",
    "**/b/c/d/e/f/g/h/i", "*a*b*c*d*", "a*b*c*d*e*f", "x/*a*b*c*d*", "*a*b*c*d*/x", "***", "****", "a**", "**a", "a**b",
    "x/***", "x/a**", "**b/x", "*a**", "**/**/**", "**/a/**/b/**", "a/**/**/**", "**/**/**/**", "x" * 16000,
    "*" * 16000, "/" * 16000, "a b", "a\n", "a:b", "a?", "[a]", "{a}", "a\\b", "\xe4", "a+", "a,b", "a\x00",
]


class Form(unittest.TestCase):
    def test_patterns(self):
        for pattern in GOOD:
            with self.subTest(pattern=pattern):
                self.assertIn(last(match(pattern, "q")), [[0], [1]])

    def test_no_patterns(self):
        for pattern in BAD:
            with self.subTest(pattern=pattern):
                self.assertEqual(last(match(pattern, "q")), PATTERN)

    def test_longest(self):
        self.assertEqual(len(LONGEST), 96)
        self.assertEqual(last(match(LONGEST, LONGEST)), [1])

    def test_each_byte(self):
        allowed = "abcdefghijklmnopqrstuvwxyzABCDEFGHIJKLMNOPQRSTUVWXYZ0123456789._-*"
        for sign in map(chr, range(256)):
            with self.subTest(sign=sign):
                self.assertEqual(last(match(sign, "q")) != PATTERN, sign in allowed)
                self.assertEqual(last(match("x" + sign + "y", "q")) != PATTERN, sign in allowed + "/")


class Match(unittest.TestCase):
    def check(self, pattern, matching, others):
        for name in matching:
            with self.subTest(pattern=pattern, name=name):
                self.assertEqual(last(match(pattern, name)), [1])
        for name in others:
            with self.subTest(pattern=pattern, name=name):
                self.assertEqual(last(match(pattern, name)), [0])

    def test_examples(self):
        self.check("a*c", ["ac", "abbc"], ["acb"])
        self.check("**", ["a", "a/b", "BUILD", "...", "a/b/c/d/e/f/g/h", LONGEST], [])
        self.check("a/**", ["a", "a/b"], ["b", "b/a"])
        self.check("**/b", ["b", "a/b"], ["a", "b/a"])

    def test_without_stars(self):
        self.check("a", ["a"], ["b", "aa", "A", "a/a", "a/b", "b/a"])
        self.check("a/b", ["a/b"], ["a", "b", "a/b/c", "a/bb", "aa/b", "x/a/b", "a-b"])
        self.check("...", ["..."], ["....", "a..", "abc"])

    def test_one_star(self):
        self.check("*", ["a", "...", "a" * 32, ".a"], ["a/b", "a/a/a"])
        self.check("a*", ["a", "ab", "aaa"], ["ba", "a/b", "b", "a/a"])
        self.check("*a", ["a", "ba", "aaa"], ["ab", "b/a", "b"])
        self.check("a*a", ["aa", "aba", "aaaa"], ["a", "ab", "ba", "a/a", "aab"])
        self.check("*.c", [".c", "x.c", "x.c.c"], ["xc", "x.cc", "a/x.c"])

    def test_several_stars(self):
        self.check("*a*", ["a", "ba", "ab", "bab", "aaa"], ["b", "bb", "a/a"])
        self.check("a*b*c", ["abc", "axbxc", "abbcc", "abcbc"], ["acb", "ab", "ac", "abcb", "xabc"])
        self.check("*a*b*c*", ["abc", "xaxbxcx", "aabbcc", "cbabc"], ["cba", "acb", "ab"])
        self.check("*ab*ab", ["abab", "xabxab", "ababab", "aabab"], ["ab", "aab", "abba", "ababa"])
        self.check("a*ab", ["aab", "aaab", "aabab"], ["ab", "aaba"])
        self.check("a*b*c*d*e", ["abcde", "a1b2c3d4e", "abcdeabcde"], ["abcd", "abced", "edcba"])

    def test_star_stays_in_its_part(self):
        self.check("*/*", ["a/b", "aa/bb"], ["a", "a/b/c"])
        self.check("a/*", ["a/b", "a/a"], ["a", "a/b/c", "b/a"])
        self.check("*/b", ["a/b", "b/b"], ["b", "a/a/b", "a/bb"])
        self.check("a*/*b", ["a/b", "aa/ab"], ["a", "ab", "ba/b", "a/b/b", "a/x/b"])

    def test_two_stars_at_the_beginning(self):
        self.check("**/a", ["a", "b/a", "a/a", "c/b/a", "b/c/d/e/f/g/h/a"], ["b", "a/b", "ba", "b/ba"])
        self.check("**/a/b", ["a/b", "x/a/b", "a/a/b", "a/b/a/b"], ["b", "a", "a/x/b", "a/b/x"])
        self.check("**/*", ["a", "a/b", "a/b/c"], [])
        self.check("**/*.c", ["x.c", "b/y.c", "a/b/.c"], ["x.h", "x.c/y"])

    def test_two_stars_in_the_middle(self):
        self.check("a/**/b", ["a/b", "a/x/b", "a/x/y/b", "a/b/b", "a/a/b"], ["a", "b", "ab", "a/b/x", "x/a/b"])
        self.check("*/**/*", ["a/b", "a/b/c", "a/b/c/d/e/f/g/h"], ["a"])
        self.check("a/**/b/c", ["a/b/c", "a/x/b/c", "a/b/b/c", "a/b/c/b/c"], ["a/b", "a/b/x/c", "a/c"])

    def test_two_stars_at_the_end(self):
        self.check("a/**", ["a", "a/b", "a/b/c"], ["b", "ab", "aa/b"])
        self.check("a/b/**", ["a/b", "a/b/c", "a/b/c/d"], ["a", "a/c", "a/bb/c"])
        self.check("*/**", ["a", "a/b", "a/b/c"], [])

    def test_two_of_them(self):
        self.check("**/**", ["a", "a/b", "a/b/c"], [])
        self.check("**/a/**", ["a", "b/a", "a/b", "b/a/b", "c/b/a"], ["b", "b/c", "ba", "b/ab/c"])
        self.check("a/**/b/**", ["a/b", "a/x/b", "a/b/x", "a/x/b/y/z", "a/b/b"], ["a", "b", "a/x", "b/a", "x/a/b"])
        self.check("**/a/**/b", ["a/b", "x/a/b", "a/x/b", "x/a/y/b", "a/b/b"], ["a", "b", "b/a", "a/b/x"])
        self.check("a/**/**/b", ["a/b", "a/x/b", "a/x/y/b"], ["a", "b", "a/b/x"])

    def test_dots_match_nothing(self):
        for pattern in [".", "..", "./a", "a/.", "../a", "a/..", "**/.", "**/..", "./**", "a/./b"]:
            self.check(pattern, [], ["a", "a/b", "...", "b", ".a", "a/...", "..a/a"])
        self.check(".*", [".a", "...", ".a."], ["a", "a."])
        self.check("..*", ["...", "..a"], [".a", "a"])

    def test_as_regular_expressions_tell(self):
        source = random.Random(3)
        counts = [0, 0]
        for round_number in range(6000):
            pattern = "/".join(source.choice(["**", "*", "a", "b", "*a", "a*", "a*b", "*a*", "*ab*b"])
                               for part in range(source.randint(1, 4)))
            if pattern.split("/").count("**") > 2:
                continue
            name = "/".join(source.choice(["a", "b", "ab", "aab", "abb", "ba"]) for part in range(source.randint(1, 4)))
            answer = last(match(pattern, name))
            self.assertEqual(answer, [1 if self.is_told_off(pattern, name) else 0], (pattern, name))
            counts[answer[0]] += 1
        self.assertGreater(min(counts), 500)

    def is_told_off(self, pattern, name):
        parts = ["(/[^/]+)*" if part == "**" else "/" + part.replace("*", "[^/]*") for part in pattern.split("/")]
        return re.fullmatch("".join(parts), "/" + name) is not None

    def test_longest_ones(self):
        self.check("*a*a*a*" + "a" * 25, ["a" * 28, "a" * 32], ["a" * 27, "a" * 31 + "b"])
        self.check("**/*a*a*a*a/**/b", ["/".join(["a" * 12] * 7) + "/b"], ["/".join(["a" * 11] * 8)])

    def test_order_of_refusals(self):
        for name in ["", "/", "a/", "a//b", ".", "..", "a/..", "*", "a b", "a" * 33, LONGEST + "c",
                     "a/b/c/d/e/f/g/h/i"]:
            with self.subTest(name=name):
                self.assertEqual(last(match("**", name)), PATH)
                self.assertEqual(last(match(".", name)), PATH)
                self.assertEqual(last(match("a//b", name)), PATTERN)


if __name__ == "__main__":
    unittest.main()
