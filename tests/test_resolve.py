import unittest

from helper import ABSENT, CROSS, LABEL, PACKAGE, PATH, files, last, lines, move, put, puts, remove, resolve, run, told

EXAMPLE = puts("BUILD", "a/BUILD", "a/x.c", "a/b/y.c", "a/c/BUILD")
LONGEST = "/".join(["a" * 32, "b" * 32, "c" * 30])
DEEP = "/".join(["d" * 32, "e" * 32])


class Resolve(unittest.TestCase):
    def check(self, calls, label, wanted):
        with self.subTest(label=label):
            self.assertEqual(last(*calls, resolve(label)), wanted)

    def test_examples(self):
        self.check(EXAMPLE, "//:a/x.c", CROSS)
        self.check(EXAMPLE, "//a:b/y.c", told("a/b/y.c"))

    def test_files(self):
        self.check(EXAMPLE, "//:BUILD", told("BUILD"))
        self.check(EXAMPLE, "//a:BUILD", told("a/BUILD"))
        self.check(EXAMPLE, "//a:x.c", told("a/x.c"))
        self.check(EXAMPLE, "//a/c:BUILD", told("a/c/BUILD"))
        self.check(puts("BUILD", "x", "b/y"), "//:x", told("x"))
        self.check(puts("BUILD", "x", "b/y"), "//:b/y", told("b/y"))

    def test_empty_file(self):
        self.check([put("BUILD"), put("x")], "//:x", told("x"))

    def test_no_absolute_label(self):
        labels = ["", ":", "x.c", ":x.c", "a/x.c", "//a", "//", "//:", "//a:", "/a:x.c", "a:x.c", "///a:x.c",
                  "//a:x.c:", "//a::x.c", "//a/:x.c", "//a:x.c/", "//a:/x.c", "//.:x.c", "//..:x.c", "//a:.", "//a:..",
                  "//a b:c", "//a:*", "//a:\xe4", "//x:" + LONGEST + "c", "//" + LONGEST + "c:x",
                  "//x:a/b/c/d/e/f/g/h/i", "//a/b/c/d/e/f/g/h/i:x", "x" * 16000]
        for label in labels:
            self.check(EXAMPLE, label, LABEL)
            self.check([], label, LABEL)

    def test_no_package(self):
        self.check([], "//:x", PACKAGE)
        for label in ["//b:x.c", "//a/b:y.c", "//a/x.c:x", "//BUILD:BUILD", "//a/BUILD:x", "//a/c/d:x", "//A:x.c",
                      "//aa:x"]:
            self.check(EXAMPLE, label, PACKAGE)
        self.check(puts("a/x", "a/b/BUILD"), "//a:x", PACKAGE)
        self.check(puts("a/x", "a/b/BUILD"), "//:a/x", PACKAGE)

    def test_too_long_together(self):
        calls = puts("BUILD", DEEP + "/BUILD", DEEP + "/" + "f" * 30)
        self.check(calls, "//" + DEEP + ":" + "f" * 30, told(DEEP + "/" + "f" * 30))
        self.check(calls, "//" + DEEP + ":" + "f" * 29, ABSENT)
        self.check(calls, "//" + DEEP + ":" + "f" * 31, PATH)
        self.check(calls, "//" + DEEP + ":" + LONGEST, PATH)
        self.check(calls, "//:" + LONGEST, ABSENT)

    def test_too_many_parts_together(self):
        calls = puts("BUILD", "a/b/c/BUILD", "a/b/c/d/e/f/g/h")
        self.check(calls, "//a/b/c:d/e/f/g/h", told("a/b/c/d/e/f/g/h"))
        self.check(calls, "//a/b/c:d/e/f/g/i", ABSENT)
        self.check(calls, "//a/b/c:d/e/f/g/h/i", PATH)
        self.check(calls, "//a/b/c:1/2/3/4/5/6/7/8", PATH)
        self.check(calls, "//:1/2/3/4/5/6/7/8", ABSENT)

    def test_cross(self):
        for label in ["//:a/x.c", "//:a/BUILD", "//:a/b/y.c", "//:a/zzz", "//:a/b", "//:a/c", "//:a/c/BUILD",
                      "//:a/c/zzz", "//a:c/BUILD", "//a:c/zzz"]:
            self.check(EXAMPLE, label, CROSS)

    def test_absent(self):
        for label in ["//:x", "//:b/c", "//a:x", "//a:BUILD/x", "//a/c:x", "//a:x.c/y", "//:aa/x.c", "//:a-b/c",
                      "//a:a"]:
            self.check(EXAMPLE, label, ABSENT)

    def test_directories(self):
        # A package's own path belongs to the package above it.
        self.check(EXAMPLE, "//:a", ABSENT)
        self.check(EXAMPLE, "//a:c", ABSENT)
        self.check(EXAMPLE, "//a:b", ABSENT)
        self.check(puts("BUILD", "a/b/x"), "//:a/b", ABSENT)

    def test_order_of_refusals(self):
        calls = puts("a/b/c/BUILD", "a/b/c/d/BUILD")
        self.check(calls, "//x:a/b/c/d/e/f/g/h/i", LABEL)
        self.check(calls, "//a/b/x:d/e/f/g/h/i", PACKAGE)
        self.check(calls, "//a/b/c:d/e/f/g/h/i", PATH)
        self.check(calls, "//a/b/c:d/e", CROSS)
        self.check(calls, "//a/b/c/d:e", ABSENT)

    def test_with_edits(self):
        found = run(*EXAMPLE, remove("a/BUILD"), resolve("//:a/x.c"), resolve("//a:x.c"), move("a/x.c", "a/c/x.c"),
                    resolve("//a/c:x.c"), resolve("//:a/c/x.c"), files())
        wanted = [[1], told("a/x.c"), PACKAGE, [1], told("a/c/x.c"), CROSS,
                  lines("BUILD", "a/b/y.c", "a/c/BUILD", "a/c/x.c")]
        self.assertEqual(found[5:], wanted)


if __name__ == "__main__":
    unittest.main()
