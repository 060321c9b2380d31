import unittest

from helper import CLASH, FULL, LONG, PATH, files, get, last, lines, put, puts, run, told
from treelabels.refusals import FULL as FULL_NUMBER
from treelabels.tree import Tree, put_file


def text(word):
    return tuple(word.encode("ascii"))


def tree_of(count, size=0):
    """A line's calls are too few for 64 files, so these tests put them in without a line."""
    tree = Tree()
    for k in range(count):
        assert put_file(tree, text(f"f{k}"), (7,) * size) == [1]
    return tree


class Put(unittest.TestCase):
    def test_new_and_again(self):
        self.assertEqual(
            run(put("a/b", "one"), get("a/b"), put("a/b", "three"), get("a/b"), put("a/b", ""), get("a/b"), files()),
            [[1], told("one"), [0], told("three"), [0], [0], lines("a/b")],
        )

    def test_empty_file_is_a_file(self):
        self.assertEqual(run(put("a"), get("a"), files(), put("a")), [[1], [0], lines("a"), [0]])

    def test_all_bytes(self):
        data = bytes(range(256)).decode("latin-1")
        self.assertEqual(run(put("a", data), get("a")), [[1], told(data)])

    def test_longest_file(self):
        self.assertEqual(run(put("a", "x" * 4096), get("a")), [[1], told("x" * 4096)])
        self.assertEqual(run(put("a", "x" * 4097), files()), [LONG, [0]])
        self.assertEqual(run(put("a", "y"), put("a", "x" * 4097), get("a")), [[1], LONG, told("y")])
        self.assertEqual(last(put("a", "x" * 16000)), LONG)

    def test_within_one_another(self):
        self.assertEqual(run(put("a"), put("a/b"), files()), [[1], CLASH, lines("a")])
        self.assertEqual(run(put("a"), put("a/b/c/d"), files()), [[1], CLASH, lines("a")])
        self.assertEqual(run(put("a/b"), put("a"), files()), [[1], CLASH, lines("a/b")])
        self.assertEqual(run(put("a/b/c/d"), put("a/b"), files()), [[1], CLASH, lines("a/b/c/d")])

    def test_clash_with_any_file(self):
        self.assertEqual(last(*puts("x", "a/b", "z"), put("a/b/c")), CLASH)
        self.assertEqual(last(*puts("x", "a/b", "z"), put("a")), CLASH)

    def test_alike_beginnings_are_no_clash(self):
        for one, other in [("a", "ab"), ("a-b", "a/b"), ("a", "a-b"), ("a.b", "a/b"), ("a/b", "a/bc"), ("a/b", "ab/b")]:
            with self.subTest(one=one, other=other):
                self.assertEqual(run(put(one), put(other)), [[1], [1]])
                self.assertEqual(run(put(other), put(one)), [[1], [1]])

    def test_64_files(self):
        tree = tree_of(63)
        self.assertEqual(put_file(tree, text("g"), ()), [1])
        self.assertEqual(len(tree.files), 64)

    def test_65_files(self):
        tree = tree_of(64)
        self.assertEqual(put_file(tree, text("g"), ()), [FULL_NUMBER])
        self.assertEqual(len(tree.files), 64)
        self.assertEqual(put_file(tree, text("f5"), (1, 2)), [0])
        self.assertEqual(tree.files[text("f5")], (1, 2))

    def test_8192_bytes(self):
        two = [put("a", "x" * 4096), put("b", "y" * 4095)]
        self.assertEqual(run(*two, put("c", "z"), put("d", "")), [[1], [1], [1], [1]])
        self.assertEqual(run(*two, put("c", "zz"), files()), [[1], [1], FULL, lines("a", "b")])

    def test_other_bytes_for_a_file_in_a_full_tree(self):
        three = [put("a", "x" * 4096), put("b", "y" * 4000), put("c", "z" * 96)]
        self.assertEqual(last(*three, put("c", "q" * 96)), [0])
        self.assertEqual(last(*three, put("a", "q" * 4096)), [0])
        self.assertEqual(run(*three, put("c", "q" * 97), get("c"))[3:], [FULL, told("z" * 96)])
        self.assertEqual(run(*three, put("b", ""), put("c", "q" * 4096))[3:], [[0], [0]])
        self.assertEqual(run(*three, put("b", "y"), put("c", "q" * 4096))[3:], [[0], FULL])

    def test_many_files_of_8192_bytes(self):
        tree = tree_of(63, 128)
        self.assertEqual(put_file(tree, text("g"), (1,) * 129), [FULL_NUMBER])
        self.assertEqual(put_file(tree, text("g"), (1,) * 128), [1])
        self.assertEqual(put_file(tree, text("f0"), (1,) * 129), [FULL_NUMBER])

    def test_order_of_refusals(self):
        full = [put("a", "x" * 4096), put("b/c", "y" * 4096)]
        self.assertEqual(last(*full, put("a/", "x" * 4097)), PATH)
        self.assertEqual(last(*full, put("a/b", "x" * 4097)), LONG)
        self.assertEqual(last(*full, put("a/b", "x" * 4096)), CLASH)
        self.assertEqual(last(*full, put("b", "x" * 4096)), CLASH)
        self.assertEqual(last(*full, put("c", "x" * 4096)), FULL)


if __name__ == "__main__":
    unittest.main()
