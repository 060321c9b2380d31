import unittest

from helper import ABSENT, PATH, files, get, last, lines, list_of, put, puts, remove, told


class Get(unittest.TestCase):
    def test_bytes(self):
        self.assertEqual(last(put("a/b", "x\n\x00\xffy"), get("a/b")), told("x\n\x00\xffy"))

    def test_empty_file(self):
        self.assertEqual(last(put("a/b", ""), get("a/b")), [0])

    def test_no_file(self):
        calls = puts("a/b", "c")
        for path in ["a", "b", "a/b/c", "a/bb", "C", "c/d"]:
            with self.subTest(path=path):
                self.assertEqual(last(*calls, get(path)), ABSENT)
        self.assertEqual(last(get("a")), ABSENT)
        self.assertEqual(last(*calls, get("")), PATH)
        self.assertEqual(last(*calls, get("a/")), PATH)


class List(unittest.TestCase):
    def test_directories(self):
        calls = puts("a/x", "a/b/y", "a/b/z", "c", "b/q")
        self.assertEqual(last(*calls, list_of("")), lines("a/", "b/", "c"))
        self.assertEqual(last(*calls, list_of("a")), lines("b/", "x"))
        self.assertEqual(last(*calls, list_of("a/b")), lines("y", "z"))

    def test_no_directory(self):
        calls = puts("a/x", "c", "ab")
        for path in ["c", "a/x", "b", "x", "a/x/y"]:
            with self.subTest(path=path):
                self.assertEqual(last(*calls, list_of(path)), ABSENT)
        self.assertEqual(last(*calls, list_of("a/")), PATH)
        self.assertEqual(last(*calls, list_of("/")), PATH)

    def test_empty_tree(self):
        self.assertEqual(last(list_of("")), [0])
        self.assertEqual(last(list_of("a")), ABSENT)
        self.assertEqual(last(*puts("a/b"), remove("a"), list_of("")), [0])
        self.assertEqual(last(*puts("a/b"), remove("a"), list_of("a")), ABSENT)

    def test_each_part_once(self):
        calls = puts("a/x/1", "b", "a/x/2", "a/y/3", "a/x/4/5")
        self.assertEqual(last(*calls, list_of("")), lines("a/", "b"))
        self.assertEqual(last(*calls, list_of("a")), lines("x/", "y/"))
        self.assertEqual(last(*calls, list_of("a/x")), lines("1", "2", "4/"))

    def test_slash_does_not_count_in_the_order(self):
        calls = puts("a.b", "a-b", "a/x", "ab", "A", "0")
        self.assertEqual(last(*calls, list_of("")), lines("0", "A", "a/", "a-b", "a.b", "ab"))
        calls = puts("d/a.b/x", "d/a-b", "d/a/x")
        self.assertEqual(last(*calls, list_of("d")), lines("a/", "a-b", "a.b/"))

    def test_alike_beginnings(self):
        calls = puts("a/x", "ab/y", "a-b/z")
        self.assertEqual(last(*calls, list_of("a")), lines("x"))


class Files(unittest.TestCase):
    def test_empty_tree(self):
        self.assertEqual(last(files()), [0])

    def test_order(self):
        wanted = ["-", ".a", "0", "B", "_", "a-b", "a.b", "a/b", "a0", "aB", "a_", "aa", "b"]
        self.assertEqual(last(*puts(*wanted), files()), lines(*wanted))
        self.assertEqual(last(*puts(*reversed(wanted)), files()), lines(*wanted))

    def test_behind_its_own_beginnings(self):
        self.assertEqual(last(*puts("abc", "ab", "a", "b"), files()), lines("a", "ab", "abc", "b"))
        self.assertEqual(last(*puts("a/b/c", "a/b-c", "a/bc"), files()), lines("a/b-c", "a/b/c", "a/bc"))


if __name__ == "__main__":
    unittest.main()
