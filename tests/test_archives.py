import random
import re
import unittest

from helper import ARCHIVE, archive, archived, files, get, last, lines, move, put, puts, read, remove, run, told

ALL_BYTES = bytes(range(256)).decode("latin-1")
LONGEST = "/".join(["a" * 32, "b" * 32, "c" * 30])
DIGITS = re.compile("(0|[1-9][0-9]*):")
SOME = {"a": "1", "b/c": "22", "b/d": ""}


def many(count, data=""):
    return {f"f{k:02}": data for k in range(count)}


def files_told(text):
    """Another way to read an archive: None if it isn't one."""
    found = []
    place = 0
    while text[place:] != ".":
        size = DIGITS.match(text, place)
        if size is None:
            return None
        place = size.end() + int(size.group(1)[:9])
        if place > len(text):
            return None
        found.append(text[size.end():place])
    pairs = list(zip(found[::2], found[1::2]))
    return dict(pairs) if len(found) % 2 == 0 and is_tree(pairs) else None


def is_tree(pairs):
    paths = [path for path, data in pairs]
    parts = r"(?!\.\.?(/|\Z))[A-Za-z0-9._-]{1,32}"
    return (all(re.fullmatch(f"{parts}(/{parts}){{0,7}}", path) and len(path) <= 96 for path in paths)
            and len(set(paths)) == len(paths) <= 64
            and not any(path.startswith(other + "/") for path in paths for other in paths)
            and max([len(data) for path, data in pairs], default=0) <= 4096
            and sum(len(data) for path, data in pairs) <= 8192)


class Archive(unittest.TestCase):
    def test_empty_tree(self):
        self.assertEqual(last(archive()), told("."))
        self.assertEqual(run(put("a"), remove("a"), archive()), [[1], [1], told(".")])

    def test_files(self):
        self.assertEqual(last(put("a", "xyz"), archive()), told("1:a3:xyz."))
        self.assertEqual(last(put("a/b.c", ""), archive()), told("5:a/b.c0:."))
        self.assertEqual(last(put("a", "x" * 10), archive()), told("1:a10:" + "x" * 10 + "."))
        self.assertEqual(last(put("a", "x" * 4096), archive()), told("1:a4096:" + "x" * 4096 + "."))
        self.assertEqual(last(put(LONGEST, "1"), archive()), told("96:" + LONGEST + "1:1."))

    def test_order_of_paths(self):
        calls = [put("b", "1"), put("a/b", "2"), put("a-b", "3"), put("B", "4"), put("ab", ""), put("a.b", "6")]
        self.assertEqual(last(*calls, archive()), told("1:B1:43:a-b1:33:a.b1:63:a/b1:22:ab0:1:b1:1."))

    def test_any_bytes(self):
        self.assertEqual(last(put("a", ALL_BYTES), archive()), told("1:a256:" + ALL_BYTES + "."))
        self.assertEqual(last(put("a", "1:b1:c."), archive()), told("1:a7:1:b1:c.."))

    def test_changes_nothing(self):
        self.assertEqual(run(put("a", "x"), archive(), archive(), files(), get("a"))[2:],
                         [told("1:a1:x."), lines("a"), told("x")])

    def test_largest(self):
        names = [f"{k:02}/" + LONGEST[3:] for k in range(64)]
        text = archived({name: "x" * 128 for name in names})
        self.assertEqual(len(text), 64 * (3 + 96 + 4 + 128) + 1)
        self.assertEqual(run(read(text), archive()), [[64], told(text)])


class Read(unittest.TestCase):
    def check_no_archive(self, text):
        with self.subTest(text=text[:80]):
            before = [put("q", "1"), put("r/s", "2")]
            found = run(*before, read(text), files(), get("q"), get("r/s"), archive())
            wanted = [ARCHIVE, lines("q", "r/s"), told("1"), told("2"), told("1:q1:13:r/s1:2.")]
            self.assertEqual(found[2:], wanted)

    def test_empty_tree(self):
        self.assertEqual(run(read("."), files()), [[0], [0]])
        self.assertEqual(run(put("a", "x"), read("."), files(), archive()), [[1], [0], [0], told(".")])

    def test_files(self):
        found = run(read("1:a1:13:b/c2:223:b/d0:."), files(), get("a"), get("b/c"), get("b/d"), archive())
        wanted = [[3], lines("a", "b/c", "b/d"), told("1"), told("22"), told(""), told("1:a1:13:b/c2:223:b/d0:.")]
        self.assertEqual(found, wanted)

    def test_tree_is_another_one(self):
        found = run(*puts("a", "x/y", "z"), read(archived(SOME)), files(), get("a"), archive())
        self.assertEqual(found[3:], [[3], lines("a", "b/c", "b/d"), told("1"), told(archived(SOME))])

    def test_tree_is_edited_behind_it(self):
        found = run(read(archived(SOME)), put("a", "9"), remove("b/c"), move("b", "e"), put("n"), archive(),
                    read(archived(SOME)), archive())
        self.assertEqual(found[5:], [told("1:a1:93:e/d0:1:n0:."), [3], told(archived(SOME))])

    def test_any_order(self):
        found = run(read(archived({"z": "1", "b/d": "", "a": "3", "b/c": "4"})), archive())
        self.assertEqual(found, [[4], told(archived({"a": "3", "b/c": "4", "b/d": "", "z": "1"}))])

    def test_any_bytes(self):
        for data in [":", ".", "..", "1:a1:b.", "0", "12:", "9" * 20, ALL_BYTES, "\x80\xff", "\n", "."  * 100, "1:b0:"]:
            with self.subTest(data=data):
                text = archived({"a": data, "b": "."})
                self.assertEqual(run(read(text), get("a"), get("b"), files(), archive()),
                                 [[2], told(data), told("."), lines("a", "b"), told(text)])

    def test_digits_in_paths_and_bytes(self):
        found = run(read("2:1212:123456789012."), files(), get("12"))
        self.assertEqual(found, [[1], lines("12"), told("123456789012")])
        found = run(read("1:11:12:222:22."), files(), get("1"), get("22"))
        self.assertEqual(found, [[2], lines("1", "22"), told("1"), told("22")])

    def test_end(self):
        for text in ["", "1:a1:x", "1:a0:", "1:a", "1:", "1", "1:a1:", "1:a1", "1:a1:x:", "1:a1:x,", "1:a1:x\n",
                     "1:a2:x.", "..", ". ", ".\n", ".1:a0:", ".1:a0:.", "1:a1:x..", "1:a1:x.\n", "1:a1:x.1:b0:.",
                     "1:a1:xy.", "1:a0:x.", " .", "a", ":", "0", "x.", ":.", "1.", "1:.", "1:a.", "1:a1.", "1:a1:."]:
            self.check_no_archive(text)

    def test_lengths(self):
        for text in ["01:a0:.", "1:a00:.", "1:a01:x.", "001:a0:.", "1:a0000:.", "1:a00000:.", "1:a001:x.", ":a0:.",
                     "1:a:.", "1:a:x.", "::.", "+1:a0:.", "1:a+0:.", "1:a-0:.", "-1:a0:.", "1:a-1:.", " 1:a0:.",
                     "1 :a0:.", "1:a 0:.", "1:a0 :.", "1:a0x:.", "x1:a0:.", "1.:a0:.", "1_0:abcdefghij0:.",
                     "1:a1_0:abcdefghij.", "1:a0x1:x.", "\xb2:ab0:.", "1;a0:.", "1a0:.", "1:a0.", "1:a\xb9:x.",
                     "1:a/:x.", "1:a1e1:" + "x" * 10 + ".", "1:a" + "0" * 1000 + ":.", "1:a:0:.", "1:a1::x.",
                     "a:abcdefghij0:.", "1:a:" + "x" * 10 + "."]:
            self.check_no_archive(text)

    def test_lengths_longer_than_what_follows(self):
        for text in ["2:a.", "1:a3:x.", "1:a4096:x.", "9:a0:.", "1:a2:.", "1:a5:xyz.", "96:a0:.", "1:a9999:x.",
                     "1:a10000:x.", "1:a99999:" + "x" * 4096 + ".", "1:a" + "9" * 15000 + ":x.", "9" * 16000,
                     "9" * 15998 + ":."]:
            self.check_no_archive(text)

    def test_length_that_takes_the_end(self):
        self.check_no_archive("1:a2:x.")
        self.assertEqual(run(read("1:a2:x.."), get("a")), [[1], told("x.")])

    def test_paths_that_are_none(self):
        for path in ["", "/", "a/", "/a", "a//b", ".", "..", "a/.", "../a", "a b", "a:b", "*", "\xe4", "a" * 33,
                     LONGEST + "c", "a/b/c/d/e/f/g/h/i", "\n", "a" * 100]:
            self.check_no_archive(archived({path: "x"}))
            self.check_no_archive(archived({"k": "", path: "x", "l": ""}))

    def test_longest_paths(self):
        for path in [LONGEST, "a" * 32, "a/b/c/d/e/f/g/h", "..."]:
            with self.subTest(path=path):
                self.assertEqual(run(read(archived({path: "x"})), files()), [[1], lines(path)])

    def test_path_twice(self):
        self.check_no_archive("1:a0:1:a0:.")
        self.check_no_archive("1:a1:x1:a1:x.")
        self.check_no_archive("1:a1:x1:b0:1:a1:y.")

    def test_within_one_another(self):
        for paths in [["a", "a/b"], ["a/b", "a"], ["a", "z", "a/b/c"], ["a/b/c", "z", "a/b"]]:
            self.check_no_archive(archived({path: "" for path in paths}))
        self.assertEqual(last(read(archived({"a": "", "ab": "", "a-b": "", "a.b/c": ""}))), [4])

    def test_4096_bytes(self):
        self.assertEqual(run(read(archived({"a": "x" * 4096})), get("a")), [[1], told("x" * 4096)])
        self.check_no_archive(archived({"a": "x" * 4097}))
        self.check_no_archive(archived({"a": "x" * 10000}))

    def test_64_files(self):
        names = sorted(many(64))
        self.assertEqual(run(read(archived(many(64))), files()), [[64], lines(*names)])
        self.check_no_archive(archived(many(65)))
        self.check_no_archive(archived({f"{k}": "" for k in range(1000)}))

    def test_8192_bytes(self):
        self.assertEqual(last(read(archived({"a": "x" * 4096, "b": "y" * 4096}))), [2])
        self.assertEqual(last(read(archived({"a": "x" * 4096, "b": "y" * 4096, "c": ""}))), [3])
        self.assertEqual(last(read(archived(many(64, "x" * 128)))), [64])
        self.check_no_archive(archived({"a": "x" * 4096, "b": "y" * 4096, "c": "z"}))
        self.check_no_archive(archived({"a": "x" * 2731, "b": "y" * 2731, "c": "z" * 2731}))
        self.check_no_archive(archived({**many(63, "x" * 128), "g": "x" * 129}))

    def test_whole_tree_moved_and_removed(self):
        full = read(archived({f"d/f{k:02}": "x" for k in range(64)}))
        moved = lines(*[f"e/g/f{k:02}" for k in range(64)])
        self.assertEqual(run(full, move("d", "e/g"), files(), remove("e"), files()), [[64], [64], moved, [64], [0]])


class ReadAsAnotherReaderTells(unittest.TestCase):
    def some_tree(self, source):
        names = source.sample(["a", "b/c", "b/d", "10", "e/1", "x-y", "..."], source.randint(0, 5))
        return {name: source.choice(["", "x", ".", "1:", "0:1:q0:", "x" * 11, ALL_BYTES]) for name in names}

    def changed(self, source, text):
        place = source.randint(0, len(text))
        kind = source.randint(0, 2)
        sign = source.choice(["0", "1", "2", ":", ".", "a", "/", ""])
        return text[:place] + sign + text[place + kind:]

    def test_written_trees(self):
        source = random.Random(4)
        for round_number in range(200):
            tree = self.some_tree(source)
            found = run(read(archived(tree)), archive(), files())
            in_order = archived(dict(sorted(tree.items())))
            self.assertEqual(found, [[len(tree)], told(in_order), lines(*sorted(tree))])
            self.assertEqual(run(*[put(path, data) for path, data in tree.items()], archive())[-1], told(in_order))

    def test_changed_texts(self):
        source = random.Random(5)
        counts = {True: 0, False: 0}
        for round_number in range(3000):
            text = archived(self.some_tree(source))
            for change in range(source.randint(1, 2)):
                text = self.changed(source, text)
            wanted = files_told(text)
            found = run(read(text), archive())
            with self.subTest(text=text):
                if wanted is None:
                    self.assertEqual(found, [ARCHIVE, told(".")])
                else:
                    self.assertEqual(found, [[len(wanted)], told(archived(dict(sorted(wanted.items()))))])
            counts[wanted is None] += 1
        self.assertGreater(min(counts.values()), 300)


if __name__ == "__main__":
    unittest.main()
