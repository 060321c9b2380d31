import unittest

from helper import LABEL, PATH, label, last, run, told

LONGEST = "/".join(["c" * 32, "d" * 32, "e" * 30])


class Label(unittest.TestCase):
    def check(self, package, text, wanted):
        with self.subTest(package=package, text=text):
            self.assertEqual(last(label(package, text)), told(wanted))

    def test_examples(self):
        for text in [":x.c", "x.c", "//a:x.c"]:
            self.check("a", text, "//a:x.c")
        self.check("a", "//a", "//a:a")
        self.check("a", "//:BUILD", "//:BUILD")

    def test_absolute(self):
        for text in ["//a:b", "//:b", "//a/b:c/d", "//:c/d", "//a:a"]:
            for package in ["", "p", "p/q"]:
                self.check(package, text, text)

    def test_path_behind_slashes(self):
        self.check("", "//x", "//x:x")
        self.check("p", "//x/y/z", "//x/y/z:z")
        self.check("p", "//x/y-z.c", "//x/y-z.c:y-z.c")

    def test_in_the_package(self):
        for name in ["x", "x/y", "...", "x/y.c"]:
            self.check("", name, "//:" + name)
            self.check("", ":" + name, "//:" + name)
            self.check("p/q", name, "//p/q:" + name)
            self.check("p/q", ":" + name, "//p/q:" + name)

    def test_longest(self):
        wanted = "//" + LONGEST + ":" + LONGEST
        self.assertEqual(len(wanted), 195)
        self.check(LONGEST, LONGEST, wanted)
        self.check(LONGEST, ":" + LONGEST, wanted)
        self.check("", wanted, wanted)
        self.check("", "//" + LONGEST, "//" + LONGEST + ":" + "e" * 30)

    def test_texts_that_tell_none(self):
        texts = [
            "", "/", "//", "///", "//:", ":", "::", "//a:", "a:", "a:b", "/a", "/a:b", "///a", "///a:b",
            "//a:b:c", "//a::b", "//::b", ":a:b", "::a", "//a/:b", "//a//b:c", "//a/b/", "//./a", "//..:a", "//.:a",
            "//a:.", "//a:..", "//a:/b", "//a:b/", "//a:b//c", "//a://b", ":/a", ":a/", "://a", ":.", ":..", ".", "..",
            "a/", "a b", "//a b", "//a b:c", "//a:b c", ":a b", " //a:b", "//a:b ", "//a:b\n", "a\xe4", "//a\xe4:b",
            LONGEST + "e", "//" + LONGEST + "e", ":" + LONGEST + "e", "//a:" + LONGEST + "e", "//" + LONGEST + "e:a",
            "//a/b/c/d/e/f/g/h/i:x", "//x:a/b/c/d/e/f/g/h/i", "x" * 16000,
        ]
        for text in texts:
            for package in ["", "p"]:
                with self.subTest(package=package, text=text):
                    self.assertEqual(last(label(package, text)), LABEL)

    def test_bad_package(self):
        for package in ["/", "//", "a/", "/a", ".", "..", "a//b", "//a", ":", "a b", LONGEST + "e"]:
            for text in ["x", "//a:b", "", "//"]:
                with self.subTest(package=package, text=text):
                    self.assertEqual(run(label(package, text)), [PATH])


if __name__ == "__main__":
    unittest.main()
