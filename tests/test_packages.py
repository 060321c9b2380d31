import unittest

from helper import PACKAGE, PATH, files, last, lines, owner, packages, puts, remove, run, told

EXAMPLE = puts("BUILD", "a/BUILD", "a/x.c", "a/b/y.c", "a/c/BUILD")


class Packages(unittest.TestCase):
    def test_none(self):
        self.assertEqual(last(packages()), [0])
        self.assertEqual(last(*puts("a", "b/c"), packages()), [0])

    def test_empty_path_is_an_empty_line(self):
        self.assertEqual(last(*puts("BUILD"), packages()), told("\n"))

    def test_example(self):
        self.assertEqual(last(*EXAMPLE, packages()), lines("", "a", "a/c"))

    def test_order_is_that_of_the_packages(self):
        calls = puts("a-b/BUILD", "a/BUILD", "a.b/BUILD", "a/b/BUILD", "ab/BUILD", "BUILD")
        self.assertEqual(last(*calls, packages()), lines("", "a", "a-b", "a.b", "a/b", "ab"))
        self.assertEqual(last(*calls, files()),
                         lines("BUILD", "a-b/BUILD", "a.b/BUILD", "a/BUILD", "a/b/BUILD", "ab/BUILD"))

    def test_only_the_file_called_build(self):
        calls = puts("xBUILD", "a/xBUILD", "b/BUILDx", "c/build", "d/BUILD/x", "e-BUILD", "Build", "f/BUIL")
        self.assertEqual(last(*calls, packages()), [0])

    def test_directory_called_build(self):
        self.assertEqual(last(*puts("BUILD/BUILD"), packages()), lines("BUILD"))

    def test_follows_the_tree(self):
        self.assertEqual(last(*EXAMPLE, remove("a/BUILD"), packages()), lines("", "a/c"))


class Owner(unittest.TestCase):
    def test_example(self):
        self.assertEqual(last(*EXAMPLE, owner("a/b/y.c")), told("a"))
        self.assertEqual(last(*EXAMPLE, owner("a")), told(""))

    def test_own_path_and_build_file(self):
        self.assertEqual(last(*EXAMPLE, owner("a/c")), told("a"))
        self.assertEqual(last(*EXAMPLE, owner("a/c/BUILD")), told("a/c"))
        self.assertEqual(last(*EXAMPLE, owner("a/BUILD")), told("a"))
        self.assertEqual(last(*EXAMPLE, owner("BUILD")), told(""))

    def test_path_that_is_no_files(self):
        self.assertEqual(last(*EXAMPLE, owner("a/c/d/e")), told("a/c"))
        self.assertEqual(last(*EXAMPLE, owner("a/BUILD/x")), told("a"))
        self.assertEqual(last(*EXAMPLE, owner("q/r")), told(""))

    def test_alike_beginnings(self):
        self.assertEqual(last(*EXAMPLE, owner("a/cc")), told("a"))
        self.assertEqual(last(*EXAMPLE, owner("a-b/x")), told(""))
        self.assertEqual(last(*EXAMPLE, owner("ab/x")), told(""))

    def test_none(self):
        calls = puts("a/BUILD", "a/x", "b/x")
        self.assertEqual(last(*calls, owner("a/x")), told("a"))
        for path in ["a", "b/x", "ab/x", "BUILD"]:
            with self.subTest(path=path):
                self.assertEqual(last(*calls, owner(path)), PACKAGE)

    def test_refusals(self):
        for path in ["", "/", "a/", "..", "a:b"]:
            with self.subTest(path=path):
                self.assertEqual(run(owner(path)), [PATH])
                self.assertEqual(last(*EXAMPLE, owner(path)), PATH)


if __name__ == "__main__":
    unittest.main()
