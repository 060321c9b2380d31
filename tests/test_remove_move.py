import unittest

from helper import ABSENT, CLASH, PATH, WITHIN, files, get, last, lines, move, put, puts, remove, run, told

DEEP = "/".join("bcdefgh")
LONG_PART = "n" * 32


class Remove(unittest.TestCase):
    def test_file(self):
        self.assertEqual(run(*puts("a", "b"), remove("a"), files(), get("a"))[2:], [[1], lines("b"), ABSENT])

    def test_directory(self):
        calls = puts("a/x", "a/b/y", "ab", "a-b/z", "c/a/x")
        self.assertEqual(run(*calls, remove("a"), files())[5:], [[2], lines("a-b/z", "ab", "c/a/x")])
        self.assertEqual(run(*calls, remove("a/b"), files())[5:], [[1], lines("a-b/z", "a/x", "ab", "c/a/x")])

    def test_nothing_there(self):
        for path in ["b", "a/x/y", "a/", "x", "A"]:
            with self.subTest(path=path):
                refusal = PATH if path == "a/" else ABSENT
                self.assertEqual(run(*puts("a/x"), remove(path), files())[1:], [refusal, lines("a/x")])
        self.assertEqual(last(remove("a")), ABSENT)
        self.assertEqual(run(*puts("a"), remove(""), files())[1:], [PATH, lines("a")])

    def test_twice(self):
        self.assertEqual(run(*puts("a"), remove("a"), remove("a"), put("a/b")), [[1], [1], ABSENT, [1]])

    def test_makes_room(self):
        full = [put("a", "x" * 4096), put("b", "x" * 4096)]
        self.assertEqual(run(*full, remove("a"), put("c", "x" * 4096))[2:], [[1], [1]])


class Move(unittest.TestCase):
    def test_file(self):
        calls = [*puts("a", "b"), move("a", "c/d"), files(), get("c/d"), get("a")]
        self.assertEqual(run(*calls)[2:], [[1], lines("b", "c/d"), told("bytes of a"), ABSENT])

    def test_directory(self):
        calls = [*puts("a/x", "a/b/y", "ab", "a-b/z"), move("a", "d/e"), files(), get("d/e/b/y")]
        self.assertEqual(run(*calls)[4:], [[2], lines("a-b/z", "ab", "d/e/b/y", "d/e/x"), told("bytes of a/b/y")])

    def test_only_the_beginning_is_replaced(self):
        calls = [*puts("a/a/a"), move("a", "b"), files()]
        self.assertEqual(run(*calls)[1:], [[1], lines("b/a/a")])

    def test_nothing_there(self):
        self.assertEqual(last(move("a", "b")), ABSENT)
        self.assertEqual(run(*puts("ab", "b/a"), move("a", "c"), files())[2:], [ABSENT, lines("ab", "b/a")])

    def test_to_itself(self):
        self.assertEqual(run(*puts("a"), move("a", "a"), files(), get("a"))[1:], [[1], lines("a"), told("bytes of a")])
        calls = [*puts("a/x", "a/y", "b"), move("a", "a"), files(), get("a/y")]
        self.assertEqual(run(*calls)[3:], [[2], lines("a/x", "a/y", "b"), told("bytes of a/y")])

    def test_within_itself(self):
        self.assertEqual(run(*puts("a"), move("a", "a/b"), files())[1:], [WITHIN, lines("a")])
        self.assertEqual(run(*puts("a/b"), move("a", "a/b"), files())[1:], [WITHIN, lines("a/b")])
        self.assertEqual(run(*puts("a/b"), move("a", "a/b/c/d"), files())[1:], [WITHIN, lines("a/b")])
        self.assertEqual(run(*puts("a/b"), move("a", "ab"), files())[1:], [[1], lines("ab/b")])
        self.assertEqual(run(*puts("a/b"), move("a", "a-b"), files())[1:], [[1], lines("a-b/b")])

    def test_above_itself(self):
        self.assertEqual(run(*puts("a/b"), move("a/b", "a"), files())[1:], [[1], lines("a")])
        self.assertEqual(run(*puts("a/b/c", "a/b/d/e"), move("a/b", "a"), files())[2:], [[2], lines("a/c", "a/d/e")])
        self.assertEqual(run(*puts("a/b", "a/c"), move("a/b", "a"), files())[2:], [CLASH, lines("a/b", "a/c")])
        self.assertEqual(run(*puts("a/b/c", "a/d"), move("a/b", "a"), files())[2:], [[1], lines("a/c", "a/d")])

    def test_to_places_that_moved_files_leave(self):
        calls = [*puts("a/a/b", "a/b"), move("a/a", "a"), files()]
        self.assertEqual(run(*calls)[2:], [CLASH, lines("a/a/b", "a/b")])
        calls = [*puts("a/a/a", "a/a/b"), move("a/a", "a"), files(), get("a/a"), get("a/b")]
        self.assertEqual(run(*calls)[2:], [[2], lines("a/a", "a/b"), told("bytes of a/a/a"), told("bytes of a/a/b")])
        calls = [*puts("a/a/a/x", "a/a/x", "b"), move("a/a", "a"), files(), get("a/a/x"), get("a/x")]
        wanted = [[2], lines("a/a/x", "a/x", "b"), told("bytes of a/a/a/x"), told("bytes of a/a/x")]
        self.assertEqual(run(*calls)[3:], wanted)

    def test_too_many_parts(self):
        calls = [*puts("a/" + DEEP), move("a", "x/y"), files()]
        self.assertEqual(run(*calls)[1:], [PATH, lines("a/" + DEEP)])
        self.assertEqual(run(*puts("a/" + DEEP), move("a", "x"), files())[1:], [[1], lines("x/" + DEEP)])

    def test_too_long(self):
        path = "a/" + LONG_PART + "/" + "m" * 29
        self.assertEqual(run(*puts(path), move("a", "x" * 32), files())[1:], [[1], lines("x" * 32 + path[1:])])
        path = "a/" + LONG_PART + "/" + "m" * 30
        self.assertEqual(run(*puts(path), move("a", "x" * 32), files())[1:], [[1], lines("x" * 32 + path[1:])])
        path = "a/" + LONG_PART + "/" + "m" * 31
        self.assertEqual(run(*puts(path), move("a", "x" * 32), files())[1:], [PATH, lines(path)])

    def test_one_of_several_too_long(self):
        calls = [*puts("a/b", "a/" + DEEP.replace("b", "q"), "a/z"), move("a", "x/y"), files()]
        self.assertEqual(run(*calls)[3], PATH)
        self.assertEqual(run(*calls)[4], lines("a/b", "a/" + DEEP.replace("b", "q"), "a/z"))

    def test_clash_same_path(self):
        self.assertEqual(run(*puts("a", "b"), move("a", "b"), get("b"))[2:], [CLASH, told("bytes of b")])
        self.assertEqual(run(*puts("a/x", "b/x"), move("a", "b"), get("b/x"))[2:], [CLASH, told("bytes of b/x")])

    def test_clash_moved_within_a_file(self):
        self.assertEqual(run(*puts("a/x", "b"), move("a", "b"), files())[2:], [CLASH, lines("a/x", "b")])
        self.assertEqual(run(*puts("a", "b"), move("a", "b/c"), files())[2:], [CLASH, lines("a", "b")])

    def test_clash_a_file_within_a_moved_one(self):
        self.assertEqual(run(*puts("a", "b/c"), move("a", "b"), files())[2:], [CLASH, lines("a", "b/c")])
        self.assertEqual(run(*puts("a/x", "b/x/y"), move("a", "b"), files())[2:], [CLASH, lines("a/x", "b/x/y")])

    def test_one_of_several_clashes(self):
        calls = [*puts("a/x", "a/y", "a/z", "b/y"), move("a", "b"), files()]
        self.assertEqual(run(*calls)[4:], [CLASH, lines("a/x", "a/y", "a/z", "b/y")])

    def test_into_a_directory_without_clash(self):
        calls = [*puts("a/x", "b/y", "b/xx"), move("a", "b"), files()]
        self.assertEqual(run(*calls)[3:], [[1], lines("b/x", "b/xx", "b/y")])

    def test_full_tree_can_be_moved(self):
        full = [put("a/x", "x" * 4096), put("a/y", "y" * 4096)]
        self.assertEqual(run(*full, move("a", "b"), files())[2:], [[2], lines("b/x", "b/y")])

    def test_order_of_refusals(self):
        self.assertEqual(last(move("/", "/")), PATH)
        self.assertEqual(last(move("a", "/")), PATH)
        self.assertEqual(last(move("a", "a/b")), ABSENT)
        self.assertEqual(last(*puts("a/" + DEEP), move("a", "a/b")), WITHIN)
        self.assertEqual(last(*puts("a/" + DEEP, "a/x", "b/c/x"), move("a", "b/c")), PATH)


if __name__ == "__main__":
    unittest.main()
