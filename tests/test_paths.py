import unittest

from helper import ABSENT, LABEL, PACKAGE, PATH, get, label, last, list_of, move, owner, put, remove, run, told

PART_BYTES = "abcdefghijklmnopqrstuvwxyzABCDEFGHIJKLMNOPQRSTUVWXYZ0123456789._-"

GOOD = [
    "a",
    "b" * 32,
    "a/b/c/d/e/f/g/h",
    "/".join(["c" * 32, "d" * 32, "e" * 30]),
    "...",
    ".a",
    "a.",
    "..a",
    "a/.../b",
    "a/.b",
    "-",
    "_",
    "0",
    PART_BYTES[:32],
    PART_BYTES[32:64],
    PART_BYTES[64:],
]

BAD = [
    "",
    "b" * 33,
    "a/" + "b" * 33,
    "a/b/c/d/e/f/g/h/i",
    "/".join(["c" * 32, "d" * 32, "e" * 31]),
    ".",
    "..",
    "a/.",
    "a/..",
    "./a",
    "../a",
    "a/./b",
    "a/../b",
    "/",
    "//",
    "/a",
    "a/",
    "a//b",
    "a b",
    "a" * 16000,
]


class Paths(unittest.TestCase):
    def test_edges_are_the_edges(self):
        self.assertEqual(len("/".join(["c" * 32, "d" * 32, "e" * 30])), 96)
        self.assertEqual(len("/".join(["c" * 32, "d" * 32, "e" * 31])), 97)

    def test_paths(self):
        for path in GOOD:
            with self.subTest(path=path):
                self.assertEqual(run(put(path, "x"), get(path)), [[1], told("x")])

    def test_no_paths(self):
        for path in BAD:
            with self.subTest(path=path):
                self.assertEqual(last(put(path, "x")), PATH)

    def test_each_byte(self):
        for byte in range(256):
            sign = bytes([byte]).decode("latin-1")
            good = sign in PART_BYTES
            with self.subTest(byte=byte):
                self.assertEqual(last(put("a" + sign)), [1] if good else PATH)
                # A slash is good between two parts, but it stands in none.
                good = good or sign == "/"
                self.assertEqual(last(put("a" + sign + "b")), [1] if good else PATH)

    def test_every_call_asks_for_a_path(self):
        for path in BAD:
            with self.subTest(path=path):
                self.assertEqual(last(remove(path)), PATH)
                self.assertEqual(last(move(path, "a")), PATH)
                self.assertEqual(last(put("a"), move("a", path)), PATH)
                self.assertEqual(last(get(path)), PATH)
                self.assertEqual(last(put("BUILD"), owner(path)), PATH)

    def test_empty_path_where_it_may_stand(self):
        for path in BAD:
            with self.subTest(path=path):
                self.assertEqual(last(list_of(path)), [0] if path == "" else PATH)
                self.assertEqual(last(label(path, "x")), told("//:x") if path == "" else PATH)

    def test_good_paths_are_no_path_refusals(self):
        for path in GOOD:
            with self.subTest(path=path):
                self.assertEqual(last(remove(path)), ABSENT)
                self.assertEqual(last(move(path, "q")), ABSENT)
                self.assertEqual(last(put("q"), move("q", path)), [1])
                self.assertEqual(last(get(path)), ABSENT)
                self.assertEqual(last(list_of(path)), ABSENT)
                self.assertEqual(last(owner(path)), PACKAGE)
                self.assertEqual(last(label(path, "")), LABEL)


if __name__ == "__main__":
    unittest.main()
