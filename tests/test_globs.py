import unittest

from helper import (PACKAGE, PATH, PATTERN, files, glob, glob_of_rows, last, lines, move, numbers_of, packages, puts,
                    remove, row_of, run)

FAR = 10 ** 18
EXAMPLE = puts("BUILD", "a/BUILD", "a/x.c", "a/b/y.c", "a/c/BUILD")
LONGEST = "/".join(["a" * 32, "b" * 32, "c" * 30])

NOT_TEXTS = [
    [-1], [-1, 97], [-2, 97, 97], [-FAR], [-FAR, 97], [FAR], [FAR, 97], [2, 97], [1], [1, 97, 1], [1, 97, 2, 97],
    [1, 97, -1], [1, 97, -2, 97], [3, 97, 97], [1, -1], [1, 256], [1, FAR], [1, -FAR], [2, 97, 97 + 256],
    [2, 97, 97 - 256], [1, 97, 1, 300], [1000] + [97] * 998, [97], [-1, -1], [0, -1], [1, 97, FAR], [1, 97, -FAR],
    [10 ** 17] * 1000,
]
NOT_PATTERNS = ["", "/", "a/", "/a", "a//b", "***", "a**", "*a*b*c*d*", "**/**/**", "a b", "\xe4", "a" * 33,
                LONGEST + "c", "a/b/c/d/e/f/g/h/i"]


class Glob(unittest.TestCase):
    def check(self, paths, package, patterns, excludes, names):
        with self.subTest(package=package, patterns=patterns, excludes=excludes):
            self.assertEqual(last(*puts(*paths), glob(package, patterns, excludes)), lines(*names))

    def test_examples(self):
        paths = ["BUILD", "a/BUILD", "a/x.c", "a/b/y.c", "a/c/BUILD"]
        self.check(paths, "a", ["**/*.c"], [], ["b/y.c", "x.c"])
        self.check(paths, "a", ["*"], [], ["x.c"])
        self.check(paths, "", ["*"], [], [])

    def test_one_of_the_patterns(self):
        paths = ["BUILD", "a", "b", "c", "d/e"]
        self.check(paths, "", ["a", "b"], [], ["a", "b"])
        self.check(paths, "", ["b", "x", "a", "b"], [], ["a", "b"])
        self.check(paths, "", ["d/*"], [], ["d/e"])
        self.check(paths, "", ["d"], [], [])
        self.check(paths, "", ["x", "d/**"], [], ["d/e"])
        self.check(paths, "", ["*", "**"], [], ["a", "b", "c", "d/e"])

    def test_none_of_the_excludes(self):
        paths = ["BUILD", "a", "b", "c", "d/e", "d/f"]
        self.check(paths, "", ["**"], ["a"], ["b", "c", "d/e", "d/f"])
        self.check(paths, "", ["**"], ["x", "a", "d/e"], ["b", "c", "d/f"])
        self.check(paths, "", ["**"], ["**"], [])
        self.check(paths, "", ["a", "b"], ["b", "c"], ["a"])
        self.check(paths, "", ["**"], ["d/**"], ["a", "b", "c"])
        self.check(paths, "", ["*"], ["**/e"], ["a", "b", "c"])

    def test_empty_lists(self):
        paths = ["BUILD", "a", "d/e"]
        self.check(paths, "", [], [], [])
        self.check(paths, "", [], ["**"], [])
        self.check(paths, "", ["**"], [], ["a", "d/e"])

    def test_build_file_is_left_out(self):
        paths = ["BUILD", "d/BUILD.x", "d/xBUILD", "e/BUILD", "e/f/build", "e/f/x"]
        self.check(paths, "", ["BUILD"], [], [])
        self.check(paths, "", ["**"], [], ["d/BUILD.x", "d/xBUILD"])
        self.check(paths, "e", ["BUILD", "**", "*", "**/BUILD"], [], ["f/build", "f/x"])

    def test_files_of_packages_below_are_theirs(self):
        paths = ["BUILD", "x", "a/BUILD", "a/x", "a/b/x", "a/b/c/BUILD", "a/b/c/x", "a/b/c/d/x", "ab/x", "a-b/x"]
        self.check(paths, "", ["**"], [], ["a-b/x", "ab/x", "x"])
        self.check(paths, "a", ["**"], [], ["b/x", "x"])
        self.check(paths, "a/b/c", ["**"], [], ["d/x", "x"])

    def test_files_outside_are_of_none(self):
        paths = ["x", "a/x", "a/b/BUILD", "a/b/x", "a/bb/x", "a/b-b/x"]
        self.check(paths, "a/b", ["**"], [], ["x"])

    def test_patterns_are_for_names(self):
        paths = ["a/BUILD", "a/x", "a/a/x"]
        self.check(paths, "a", ["a/x"], [], ["a/x"])
        self.check(paths, "a", ["x"], [], ["x"])
        self.check(paths, "a", ["**"], ["a/*"], ["x"])

    def test_order(self):
        paths = ["BUILD", "z", "a/b", "a-b", "a.b", "a0", "aa", "Z", "a/a/z", "B/c", "_", "0"]
        self.check(paths, "", ["**"], [], ["0", "B/c", "Z", "_", "a-b", "a.b", "a/a/z", "a/b", "a0", "aa", "z"])
        self.check(["p/" + path for path in paths], "p", ["**"], [],
                   ["0", "B/c", "Z", "_", "a-b", "a.b", "a/a/z", "a/b", "a0", "aa", "z"])

    def test_dots_match_nothing(self):
        self.check(["BUILD", "...", ".a"], "", [".", ".."], [], [])
        self.check(["BUILD", "...", ".a"], "", ["**"], [".", ".."], ["...", ".a"])

    def test_package_comes_and_goes(self):
        found = run(*EXAMPLE, remove("a/c/BUILD"), glob("a", ["**"]), remove("a/BUILD"), glob("a", ["**"]),
                    glob("", ["**"]), move("BUILD", "a/b/BUILD"), glob("", ["**"]), glob("a/b", ["*"]))
        wanted = [[1], lines("b/y.c", "x.c"), [1], PACKAGE, lines("a/b/y.c", "a/x.c"), [1], PACKAGE, lines("y.c")]
        self.assertEqual(found[5:], wanted)

    def test_many_patterns(self):
        self.assertEqual(last(*puts("BUILD", "b", "c"), glob_of_rows("", [1, 98] * 500, [1, 97] * 500)), lines("b"))
        self.assertEqual(last(*puts("BUILD", "b", "c"), glob_of_rows("", [1, 97] * 499 + [1, 99], [])), lines("c"))
        self.assertEqual(last(*puts("BUILD", "b", "c"), glob_of_rows("", [1, 98] * 499 + [1, 47], [])), PATTERN)


class Refusals(unittest.TestCase):
    def test_path(self):
        for package in ["/", "//", "a/", "/a", "a//b", ".", "..", "a/..", "a b", "*", "**", ":", LONGEST + "c",
                        "a" * 33]:
            for patterns in [[], [1, 97], [-1]]:
                with self.subTest(package=package, patterns=patterns):
                    self.assertEqual(last(*EXAMPLE, glob_of_rows(package, patterns, [])), PATH)
                    self.assertEqual(last(*EXAMPLE, glob_of_rows(package, [], patterns)), PATH)

    def test_lists_that_are_no_texts(self):
        for numbers in NOT_TEXTS:
            with self.subTest(numbers=numbers[:5]):
                for package in ["", "a", "b", "a/b"]:
                    self.assertEqual(last(*EXAMPLE, glob_of_rows(package, numbers, [])), PATTERN)
                    self.assertEqual(last(*EXAMPLE, glob_of_rows(package, [], numbers)), PATTERN)
                self.assertEqual(last(*EXAMPLE, glob_of_rows("a", [1, 97], numbers)), PATTERN)
                self.assertEqual(last(*EXAMPLE, glob_of_rows("a", numbers, [1, 97])), PATTERN)
                self.assertEqual(last(*EXAMPLE, glob_of_rows("a", numbers, numbers)), PATTERN)

    def test_texts_that_are_no_patterns(self):
        for text in NOT_PATTERNS:
            with self.subTest(text=text):
                for package in ["", "a", "b"]:
                    self.assertEqual(last(*EXAMPLE, glob(package, [text], [])), PATTERN)
                    self.assertEqual(last(*EXAMPLE, glob(package, [], [text])), PATTERN)
                self.assertEqual(last(*EXAMPLE, glob("a", ["*", text, "**"], ["x"])), PATTERN)
                self.assertEqual(last(*EXAMPLE, glob("a", ["*"], ["x", text])), PATTERN)

    def test_no_package(self):
        for package in ["b", "a/b", "a/x.c", "a/BUILD", "BUILD", "a/c/d", "A", "aa"]:
            with self.subTest(package=package):
                self.assertEqual(last(*EXAMPLE, glob(package, ["**"], ["x"])), PACKAGE)
                self.assertEqual(last(*EXAMPLE, glob(package)), PACKAGE)
        self.assertEqual(last(glob("", ["**"])), PACKAGE)
        self.assertEqual(last(glob("", ["a//"])), PATTERN)

    def test_row_after_row(self):
        row = row_of(["*.c", "**"])
        self.assertEqual(row, [3] + numbers_of("*.c") + [2] + numbers_of("**"))
        found = run(*EXAMPLE, glob_of_rows("a", row, [FAR]), glob_of_rows("a", row, []), packages(), files())
        wanted = [PATTERN, lines("b/y.c", "x.c"), lines("", "a", "a/c"),
                  lines("BUILD", "a/BUILD", "a/b/y.c", "a/c/BUILD",
                                                                             "a/x.c")]
        self.assertEqual(found[5:], wanted)


if __name__ == "__main__":
    unittest.main()
