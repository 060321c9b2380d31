import unittest

from helper import (ARCHIVE, archive, archived, back, changed, compare, files, get, keep, last, lines, move, put, puts,
                    read,
                    remove, run, told)

OURS = {"a": "1", "b/c": "22", "b/d": "", "e": "same", "x-y": "."}
LONGEST = "/".join(["a" * 32, "b" * 32, "c" * 30])


class Compare(unittest.TestCase):
    """Each check is asked of compare and of changed, with the same two trees."""

    def check(self, ours, theirs, *wanted):
        with self.subTest(ours=list(ours), theirs=list(theirs)):
            self.assertEqual(last(read(archived(ours)), compare(archived(theirs))), lines(*wanted))
            self.assertEqual(last(read(archived(theirs)), keep(2), read(archived(ours)), changed(2)), lines(*wanted))

    def test_nothing_unlike(self):
        self.check({}, {})
        self.check(OURS, OURS)
        self.check(OURS, dict(reversed(OURS.items())))
        self.check({"a": ""}, {"a": ""})

    def test_one_side_alone(self):
        self.check({"a": "x", "b/c": ""}, {}, "- a", "- b/c")
        self.check({}, {"a": "x", "b/c": ""}, "+ a", "+ b/c")
        self.check({"a": "x", "b": "y"}, {"b": "y"}, "- a")
        self.check({"b": "y"}, {"a": "x", "b": "y"}, "+ a")

    def test_unlike_bytes(self):
        for one, other in [("", "x"), ("x", "y"), ("x", "xx"), ("ab", "ba"), ("\xff", "\xfe"), (".", "")]:
            self.check({"a": one, "b": "z"}, {"a": other, "b": "z"}, "~ a")
            self.check({"a": other, "b": "z"}, {"a": one, "b": "z"}, "~ a")

    def test_order_across_the_kinds(self):
        ours = {"a": "1", "b": "1", "c": "1", "e": "1", "f": "1", "h": "1"}
        theirs = {"b": "2", "c": "1", "d": "2", "e": "2", "g": "2", "h": "1", "i": "2"}
        self.check(ours, theirs, "- a", "~ b", "+ d", "~ e", "- f", "+ g", "+ i")
        self.check(theirs, ours, "+ a", "~ b", "- d", "~ e", "+ f", "- g", "- i")

    def test_order_of_paths(self):
        ours = {"z": "", "a/b": "", "a.b": "", "B": "", "a0": ""}
        theirs = {"a-b": "", "aa": "", "a/a": "", "_": "", "a.b": "x"}
        self.check(ours, theirs, "- B", "+ _", "+ a-b", "~ a.b", "+ a/a", "- a/b", "- a0", "+ aa", "- z")

    def test_file_against_directory(self):
        self.check({"a": "x"}, {"a/b": "x"}, "- a", "+ a/b")
        self.check({"a/b": "x"}, {"a": "x"}, "+ a", "- a/b")

    def test_largest(self):
        ours = {f"a{k:02}/" + LONGEST[4:]: "" for k in range(64)}
        theirs = {f"b{k:02}/" + LONGEST[4:]: "" for k in range(64)}
        self.check(ours, theirs, *["- " + path for path in ours], *["+ " + path for path in theirs])

    def test_as_the_tree_is(self):
        found = run(put("a", "1"), put("b", "2"), compare("1:a1:1."), remove("b"), compare("1:a1:1."), move("a", "c"),
                    compare("1:a1:1."), put("c", "x"), compare("1:c1:1."))
        self.assertEqual(found[2::2], [lines("- b"), lines(), lines("+ a", "- c"), lines("~ c")])

    def test_compare_changes_nothing(self):
        found = run(read(archived(OURS)), compare("1:z0:1:a1:9."), compare("."), compare("x"), archive(), files(),
                    get("a"))
        self.assertEqual(found[3:], [ARCHIVE, told(archived(OURS)), lines(*OURS), told("1")])

    def test_changed_changes_nothing(self):
        found = run(keep(1), read(archived(OURS)), keep(0), put("a", "2"), put("n"), changed(0), changed(1), changed(0),
                    archive(), back(0), archive(), back(1), archive())
        wanted = [lines("~ a", "- n"), lines("- a", "- b/c", "- b/d", "- e", "- n", "- x-y"), lines("~ a", "- n"),
                  told(archived(dict(sorted({**OURS, "a": "2", "n": ""}.items())))), [5], told(archived(OURS)), [0],
                  told(".")]
        self.assertEqual(found[5:], wanted)

    def test_no_archive(self):
        texts = ["", "..", "1:a1:x", "1:a01:x.", "01:a0:.", "1:a2:x.", "1:a0:1:a0:.", "1:a0:3:a/b0:.", "1:/0:.",
                 "0:0:.", "1:a0:.\n", archived({"a": "x" * 4097}), archived({f"f{k}": "" for k in range(65)}),
                 archived({"a": "x" * 4096, "b": "y" * 4096, "c": "z"}), "x" * 16000]
        for text in texts:
            with self.subTest(text=text[:80]):
                self.assertEqual(run(*puts("a", "b"), compare(text), files())[2:], [ARCHIVE, lines("a", "b")])


if __name__ == "__main__":
    unittest.main()
