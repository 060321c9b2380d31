import unittest

from helper import (ABSENT, ARCHIVE, KEPT, archive, archived, back, changed, files, get, keep, last, lines, move, put,
                    puts, read, remove, run, told)

FAR = 10 ** 18
OUTSIDE = [-1, 4, 5, 63, -4, -FAR, FAR, FAR - 1, 2 ** 32, 2 ** 64 % FAR]


class Keep(unittest.TestCase):
    def test_numbers(self):
        for k in [0, 1, 2, 3]:
            with self.subTest(k=k):
                found = run(put("a", "x"), keep(k), remove("a"), changed(k), back(k), get("a"))
                self.assertEqual(found, [[1], [0], [1], lines("+ a"), [1], told("x")])

    def test_numbers_outside(self):
        for k in OUTSIDE:
            with self.subTest(k=k):
                found = run(put("a", "x"), keep(k), back(k), changed(k), files(), get("a"))
                self.assertEqual(found, [[1], KEPT, KEPT, KEPT, lines("a"), told("x")])

    def test_refused_keep_keeps_nothing(self):
        for k in OUTSIDE:
            with self.subTest(k=k):
                found = run(keep(0), put("a"), keep(1), put("b"), keep(2), put("c"), keep(3), put("d"), keep(k),
                            *[changed(j) for j in range(4)])
                wanted = [KEPT, lines("- a", "- b", "- c", "- d"), lines("- b", "- c", "- d"), lines("- c", "- d"),
                          lines("- d")]
                self.assertEqual(found[8:], wanted)

    def test_four_trees_at_once(self):
        calls = [put("a", "0"), keep(0), put("b", "1"), keep(1), put("a", "2"), keep(2), remove("a"), keep(3)]
        texts = ["1:a1:0.", "1:a1:01:b1:1.", "1:a1:21:b1:1.", "1:b1:1."]
        for order in [[0, 1, 2, 3], [3, 2, 1, 0], [2, 0, 3, 1], [1, 1, 0, 0]]:
            with self.subTest(order=order):
                found = run(*calls, *[one for k in order for one in [back(k), archive()]])
                self.assertEqual(found[9::2], [told(texts[k]) for k in order])

    def test_empty_tree_is_kept(self):
        found = run(keep(3), put("a"), changed(3), back(3), files(), archive())
        self.assertEqual(found, [[0], [1], lines("- a"), [0], [0], told(".")])

    def test_again_under_the_same_number(self):
        found = run(put("a", "1"), keep(0), put("a", "2"), put("b"), keep(0), remove("a"), remove("b"), changed(0),
                    back(0), archive())
        self.assertEqual(found[7:], [lines("+ a", "+ b"), [2], told("1:a1:21:b0:.")])

    def test_edits_behind_keep(self):
        edits = [[put("a", "other")], [put("n", "new")], [remove("a")], [move("a", "c")], [move("b", "a/b")],
                 [read(".")], [read("1:a1:9.")], [put("a", ""), remove("b"), put("c"), read("1:z0:."), put("y")]]
        for edit in edits:
            with self.subTest(edit=edit):
                found = run(put("a", "1"), put("b/c", "2"), keep(1), *edit, back(1), archive())
                self.assertEqual(found[-2:], [[2], told("1:a1:13:b/c1:2.")])


class Back(unittest.TestCase):
    def test_nothing_kept(self):
        for k in [0, 1, 2, 3]:
            with self.subTest(k=k):
                found = run(put("a", "x"), back(k), changed(k), get("a"), keep((k + 1) % 4), back(k), changed(k),
                            archive())
                self.assertEqual(found[1:], [KEPT, KEPT, told("x"), [0], KEPT, KEPT, told("1:a1:x.")])

    def test_how_many_files(self):
        full = archived({f"f{k:02}": "" for k in range(64)})
        self.assertEqual(run(read(full), keep(0), read("."), back(0), archive())[3:], [[64], told(full)])

    def test_edits_behind_back(self):
        edits = [[put("a", "other")], [put("n", "new")], [remove("a")], [move("a", "c")], [read(".")],
                 [read("1:a1:9.")]]
        for edit in edits:
            with self.subTest(edit=edit):
                found = run(put("a", "1"), put("b/c", "2"), keep(1), remove("a"), back(1), *edit, back(1), archive())
                self.assertEqual(found[-2:], [[2], told("1:a1:13:b/c1:2.")])
                found = run(put("a", "1"), put("b/c", "2"), keep(1), back(1), *edit, keep(2), back(1), archive())
                self.assertEqual(found[-2:], [[2], told("1:a1:13:b/c1:2.")])

    def test_twice(self):
        found = run(*puts("a", "b"), keep(2), remove("a"), back(2), files(), back(2), files(), remove("b"), back(2),
                    files())
        self.assertEqual(found[4:], [[2], lines("a", "b"), [2], lines("a", "b"), [1], [2], lines("a", "b")])

    def test_read_between(self):
        found = run(put("a", "1"), keep(0), read("1:b1:2."), keep(1), read("1:"), changed(0), changed(1), back(0),
                    archive(), back(1), archive(), read("."), back(0), get("a"))
        wanted = [ARCHIVE, lines("+ a", "- b"), lines(), [1], told("1:a1:1."), [1], told("1:b1:2."), [0], [1],
                  told("1")]
        self.assertEqual(found[4:], wanted)

    def test_back_takes_the_tree_away(self):
        self.assertEqual(run(keep(0), put("a"), back(0), get("a"), put("a")), [[0], [1], [0], ABSENT, [1]])


class Changed(unittest.TestCase):
    def test_since_keep(self):
        found = run(put("a", "1"), put("b", "2"), put("c", "3"), keep(0), changed(0), put("b", "x"), remove("c"),
                    put("d"), changed(0), put("b", "2"), remove("d"), put("c", "3"), changed(0))
        self.assertEqual([found[4], found[8], found[12]], [lines(), lines("~ b", "+ c", "- d"), lines()])

    def test_after_back(self):
        found = run(put("a", "1"), keep(0), put("a", "2"), keep(1), back(0), changed(0), changed(1), back(1),
                    changed(0))
        self.assertEqual(found[5:], [lines(), lines("~ a"), [1], lines("~ a")])

    def test_kept_in_another_line(self):
        self.assertEqual(last(put("a"), keep(0)), [0])
        self.assertEqual(last(changed(0)), KEPT)
        self.assertEqual(last(back(0)), KEPT)


if __name__ == "__main__":
    unittest.main()
