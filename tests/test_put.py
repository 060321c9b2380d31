import unittest

from helper import CLASH, FULL, LONG, PATH, archived, files, get, last, lines, put, puts, read, remove, run, told


def many(count, data=""):
    """A line's calls are too few for 64 puts, so the files are read."""
    return read(archived({f"f{k:02}": data for k in range(count)}))


class Put(unittest.TestCase):
    def test_new_and_again(self):
        self.assertEqual(
            run(put("a/b", "one"), get("a/b"), put("a/b", "three"), get("a/b"), put("a/b", ""), get("a/b"), files()),
            [[1], told("one"), [0], told("three"), [0], [0], lines("a/b")],
        )

    def test_empty_file_is_a_file(self):
        self.assertEqual(run(put("a"), get("a"), files(), put("a")), [[1], [0], lines("a"), [0]])

    def test_all_bytes(self):
        data = bytes(range(256)).decode("latin-1")
        self.assertEqual(run(put("a", data), get("a")), [[1], told(data)])

    def test_longest_file(self):
        self.assertEqual(run(put("a", "x" * 4096), get("a")), [[1], told("x" * 4096)])
        self.assertEqual(run(put("a", "x" * 4097), files()), [LONG, [0]])
        self.assertEqual(run(put("a", "y"), put("a", "x" * 4097), get("a")), [[1], LONG, told("y")])
        self.assertEqual(last(put("a", "x" * 16000)), LONG)

    def test_within_one_another(self):
        self.assertEqual(run(put("a"), put("a/b"), files()), [[1], CLASH, lines("a")])
        self.assertEqual(run(put("a"), put("a/b/c/d"), files()), [[1], CLASH, lines("a")])
        self.assertEqual(run(put("a/b"), put("a"), files()), [[1], CLASH, lines("a/b")])
        self.assertEqual(run(put("a/b/c/d"), put("a/b"), files()), [[1], CLASH, lines("a/b/c/d")])

    def test_clash_with_any_file(self):
        self.assertEqual(last(*puts("x", "a/b", "z"), put("a/b/c")), CLASH)
        self.assertEqual(last(*puts("x", "a/b", "z"), put("a")), CLASH)

    def test_alike_beginnings_are_no_clash(self):
        for one, other in [("a", "ab"), ("a-b", "a/b"), ("a", "a-b"), ("a.b", "a/b"), ("a/b", "a/bc"), ("a/b", "ab/b")]:
            with self.subTest(one=one, other=other):
                self.assertEqual(run(put(one), put(other)), [[1], [1]])
                self.assertEqual(run(put(other), put(one)), [[1], [1]])

    def test_64_files(self):
        self.assertEqual(run(many(63), put("g"), files())[1:], [[1], lines(*[f"f{k:02}" for k in range(63)], "g")])

    def test_65_files(self):
        found = run(many(64), put("g"), files(), put("f05", "x"), get("f05"), remove("f01"), put("g"), put("h"))
        names = [f"f{k:02}" for k in range(64)]
        self.assertEqual(found[1:], [FULL, lines(*names), [0], told("x"), [1], [1], FULL])

    def test_8192_bytes(self):
        two = [put("a", "x" * 4096), put("b", "y" * 4095)]
        self.assertEqual(run(*two, put("c", "z"), put("d", "")), [[1], [1], [1], [1]])
        self.assertEqual(run(*two, put("c", "zz"), files()), [[1], [1], FULL, lines("a", "b")])

    def test_other_bytes_for_a_file_in_a_full_tree(self):
        three = [put("a", "x" * 4096), put("b", "y" * 4000), put("c", "z" * 96)]
        self.assertEqual(last(*three, put("c", "q" * 96)), [0])
        self.assertEqual(last(*three, put("a", "q" * 4096)), [0])
        self.assertEqual(run(*three, put("c", "q" * 97), get("c"))[3:], [FULL, told("z" * 96)])
        self.assertEqual(run(*three, put("b", ""), put("c", "q" * 4096))[3:], [[0], [0]])
        self.assertEqual(run(*three, put("b", "y"), put("c", "q" * 4096))[3:], [[0], FULL])

    def test_many_files_of_8192_bytes(self):
        found = run(many(63, "x" * 128), put("g", "y" * 129), put("g", "y" * 128), put("f00", "y" * 129), put("f00"),
                    put("f01", "y" * 257), put("f01", "y" * 256))
        self.assertEqual(found, [[63], FULL, [1], FULL, [0], FULL, [0]])

    def test_order_of_refusals(self):
        full = [put("a", "x" * 4096), put("b/c", "y" * 4096)]
        self.assertEqual(last(*full, put("a/", "x" * 4097)), PATH)
        self.assertEqual(last(*full, put("a/b", "x" * 4097)), LONG)
        self.assertEqual(last(*full, put("a/b", "x" * 4096)), CLASH)
        self.assertEqual(last(*full, put("b", "x" * 4096)), CLASH)
        self.assertEqual(last(*full, put("c", "x" * 4096)), FULL)


if __name__ == "__main__":
    unittest.main()
