import random
import unittest

from helper import (ABSENT, ARCHIVE, CLASH, CROSS, KEPT, LABEL, PACKAGE, PATH, PATTERN, WITHIN, archive, archived, back,
                    call, changed, compare, files, get, glob, glob_of_rows, keep, label, last, lines, list_of, match,
                    move, owner, packages, parted, put, puts, read, remove, resolve, run, told)
from treelabels.desk import UnknownCall, answers

EXAMPLE = puts("BUILD", "a/BUILD", "a/x.c", "a/b/y.c", "a/c/BUILD")
SOME_PATHS = ["a", "b", "a/b", "a/b/c", "a-b", "a/a", "a/BUILD", "BUILD", "b/a/b", "b/c", "a/b/c/d/e/f/g/h", "", "/",
              ".."]
SOME_SIZES = [0, 1, 3, 2000, 4096, 4097]
SOME_LABELS = ["//:a", "//:BUILD", "//a:b", "//a:BUILD", "//:a/b", "//:a/BUILD", "//b:c", "a", "//a",
               "//a:a/b/c/d/e/f/g/h"]
SOME_PATTERNS = ["*", "**", "a/*", "**/b", "a*", "***", "/", "b"]
SOME_ARCHIVES = [".", "1:a1:x3:b/c0:.", "1:b2:xy5:BUILD0:.", "5:BUILD1:x7:a/BUILD0:3:a/b0:.", "1:a0:", "1:a0:3:a/b0:."]
ALL_REFUSALS = list(range(-12, 0))


def joined(calls):
    return [number for one in calls for number in one]


def some_call(source):
    path = source.choice(SOME_PATHS)
    number = source.choice([*range(18), 0, 0, 0, 0, 0, 2, 9, 10, 13, 15])
    if number == 0:
        return put(path, "x" * source.choice(SOME_SIZES))
    if number in (2, 8):
        return call(number, path, source.choice(SOME_PATHS))
    if number == 9:
        return resolve(source.choice(SOME_LABELS))
    if number == 10:
        return glob(path, source.choices(SOME_PATTERNS, k=2), source.choices(SOME_PATTERNS, k=1))
    if number == 11:
        return match(source.choice(SOME_PATTERNS), path)
    if number in (13, 14):
        return call(number, source.choice(SOME_ARCHIVES))
    if number in (15, 16, 17):
        return [number, source.randint(-1, 4)]
    return call(number) if number in (5, 6, 12) else call(number, path)


class Form(unittest.TestCase):
    def test_numbers_in_and_out(self):
        self.assertEqual(answers([0, 1, 97, 2, 5, 6]), [1, 1])
        self.assertEqual(answers([0, 1, 97, 2, 5, 6, 3, 1, 97]), [1, 1, 3, 0, 5, 6])
        self.assertEqual(answers([0, 1, 97, 0, 0, 1, 97, 0]), [1, 1, 1, 0])
        self.assertEqual(answers([1, 1, 97]), [1, -5])
        self.assertEqual(answers([0, 0, 0]), [1, -1])
        self.assertEqual(answers([0, 1, 97, 0, 2, 1, 97, 1, 98, 5]), [1, 1, 1, 1, 3, 0, 98, 10])
        self.assertEqual(answers([0, 3, 97, 47, 98, 0, 4, 0]), [1, 1, 4, 0, 97, 47, 10])
        self.assertEqual(answers([6]), [1, 0])
        self.assertEqual(answers([5]), [1, 0])
        self.assertEqual(answers([0, 5, 66, 85, 73, 76, 68, 0, 6, 7, 1, 97]), [1, 1, 2, 0, 10, 1, 0])
        self.assertEqual(answers([7, 1, 97]), [1, -7])
        self.assertEqual(answers([8, 1, 97, 1, 98]), [6, 0, 47, 47, 97, 58, 98])
        self.assertEqual(answers([8, 0, 0]), [1, -8])

    def test_numbers_of_the_later_calls(self):
        build = [0, 5, 66, 85, 73, 76, 68, 0, 0, 1, 97, 1, 7]
        self.assertEqual(answers(build + [9, 4, 47, 47, 58, 97]), [1, 1, 1, 1, 2, 0, 97])
        self.assertEqual(answers(build + [10, 0, 4, 1, 98, 1, 97, 2, 1, 98]), [1, 1, 1, 1, 3, 0, 97, 10])
        self.assertEqual(answers([10, 0, 0, 0]), [1, -7])
        self.assertEqual(answers([11, 1, 42, 1, 97, 11, 1, 98, 1, 97]), [1, 1, 1, 0])
        self.assertEqual(answers([0, 1, 97, 1, 7, 12]), [1, 1, 8, 0, 49, 58, 97, 49, 58, 7, 46])
        self.assertEqual(answers([13, 7, 49, 58, 97, 49, 58, 7, 46, 3, 1, 97]), [1, 1, 2, 0, 7])
        self.assertEqual(answers([14, 7, 49, 58, 97, 49, 58, 7, 46]), [5, 0, 43, 32, 97, 10])
        self.assertEqual(answers([15, 3, 0, 1, 97, 0, 17, 3, 16, 3]), [1, 0, 1, 1, 5, 0, 45, 32, 97, 10, 1, 0])
        self.assertEqual(answers([15, 4, 16, 3, 17, -1]), [1, -12, 1, -12, 1, -12])

    def test_only_whole_numbers(self):
        numbers = answers(joined([*EXAMPLE, *EXAMPLE, move("a", "d"), files(), list_of("d"), packages(), owner("d/x"),
                                  label("", "x"), resolve("//d:x.c"), glob("d", ["**"], ["x"]), match("*", "a"),
                                  match("a", "b"), archive(), keep(0), read("1:a0:."), compare("."), changed(0),
                                  back(0), back(1), remove("d"), get("BUILD"), get("d")]))
        self.assertEqual([number for number in numbers if type(number) is not int], [])
        self.assertIs(type(numbers), list)

    def test_no_such_call(self):
        for number in [-1, 18, 1000]:
            with self.assertRaises(UnknownCall):
                answers([5, number])


class Examples(unittest.TestCase):
    """What the document says behind its promises, one behind another."""

    def check(self, *pairs):
        found = run(*EXAMPLE, *[one for one, wanted in pairs])
        self.assertEqual(found[5:], [wanted for one, wanted in pairs])

    def test_packages_and_owners(self):
        self.check((packages(), lines("", "a", "a/c")), (owner("a/b/y.c"), told("a")), (owner("a"), told("")))

    def test_glob(self):
        self.check((glob("a", ["**/*.c"]), lines("b/y.c", "x.c")), (glob("a", ["*"]), lines("x.c")),
                   (glob("", ["*"]), lines()))

    def test_labels(self):
        self.check(*[(label("a", text), told("//a:x.c")) for text in [":x.c", "x.c", "//a:x.c"]],
                   (label("a", "//a"), told("//a:a")), (label("a", "//:BUILD"), told("//:BUILD")))

    def test_resolve(self):
        self.check((resolve("//:a/x.c"), CROSS), (resolve("//a:b/y.c"), told("a/b/y.c")))

    def test_match(self):
        self.check((match("a*c", "ac"), [1]), (match("a*c", "abbc"), [1]), (match("a*c", "acb"), [0]),
                   (match("**", "a"), [1]), (match("**", "a/b/c"), [1]), (match("a/**", "a"), [1]),
                   (match("a/**", "a/b"), [1]), (match("**/b", "b"), [1]), (match("**/b", "a/b"), [1]))

    def test_move(self):
        self.check((move("a", "d"), [4]), (files(), lines("BUILD", "d/BUILD", "d/b/y.c", "d/c/BUILD", "d/x.c")),
                   (packages(), lines("", "d", "d/c")), (get("d/b/y.c"), told("bytes of a/b/y.c")))


class OneBehindAnother(unittest.TestCase):
    def test_several_calls(self):
        found = run(put("a/x", "1"), put("a", "2"), remove("a/x"), put("a", "2"), move("a", "a/b"), move("a", "b"),
                    put("a/y", "3"), list_of(""), move("b", "a/y"), get("a/y"), files(), get("zz"), get("b/"))
        wanted = [[1], CLASH, [1], [1], WITHIN, [1], [1], lines("a/", "b"), CLASH, told("3"), lines("a/y", "b"),
                  ABSENT, PATH]
        self.assertEqual(found, wanted)

    def test_all_eighteen(self):
        pairs = [
            (put("BUILD"), [1]), (put("a/x.c", "1"), [1]), (put("a/x.h", "2"), [1]), (keep(0), [0]),
            (put("a/BUILD"), [1]), (get("a/x.c"), told("1")), (list_of(""), lines("BUILD", "a/")),
            (files(), lines("BUILD", "a/BUILD", "a/x.c", "a/x.h")), (packages(), lines("", "a")),
            (owner("a/y"), told("a")), (label("a", "x.c"), told("//a:x.c")), (resolve("//a:x.c"), told("a/x.c")),
            (glob("a", ["*"], ["*.h"]), lines("x.c")), (match("*.h", "x.h"), [1]), (changed(0), lines("- a/BUILD")),
            (move("a", "b"), [3]), (remove("b/x.h"), [1]), (archive(), told("5:BUILD0:7:b/BUILD0:5:b/x.c1:1.")),
            (compare("5:b/x.c1:2."), lines("- BUILD", "- b/BUILD", "~ b/x.c")),
            (changed(0), lines("+ a/x.c", "+ a/x.h", "- b/BUILD", "- b/x.c")), (resolve("//a:x.c"), PACKAGE),
            (read("1:q1:z."), [1]), (get("q"), told("z")), (glob("", ["**"]), PACKAGE), (back(0), [3]),
            (archive(), told("5:BUILD0:5:a/x.c1:15:a/x.h1:2.")), (resolve("//:a/x.c"), told("a/x.c")),
            (glob("", ["**"], ["**/*.h"]), lines("a/x.c")), (changed(0), lines()),
        ]
        self.assertEqual(sorted({one[0] for one, wanted in pairs}), list(range(18)))
        self.assertEqual(run(*[one for one, wanted in pairs]), [wanted for one, wanted in pairs])

    def test_refused_calls_leave_everything(self):
        refused = [
            (put("BUILD/x"), CLASH), (remove("q"), ABSENT), (move("a", "a/b"), WITHIN), (get("a"), ABSENT),
            (list_of("q"), ABSENT), (owner("a//"), PATH), (label("", "//"), LABEL), (resolve("a"), LABEL),
            (resolve("//b:x"), PACKAGE), (resolve("//:a/x"), CROSS), (resolve("//a:y"), ABSENT),
            (resolve("//a:1/2/3/4/5/6/7/8"), PATH), (glob("/", ["**"]), PATH), (glob_of_rows("a", [-1], []), PATTERN),
            (glob("b", ["*"]), PACKAGE), (match("", "a"), PATTERN), (match("a", ""), PATH), (read(""), ARCHIVE),
            (read("1:z0:"), ARCHIVE), (compare(""), ARCHIVE), (keep(4), KEPT), (back(0), KEPT), (changed(0), KEPT),
            (keep(-1), KEPT), (back(4), KEPT), (changed(-1), KEPT),
        ]
        found = run(*puts("BUILD", "a/BUILD"), keep(1), *puts("a/x"), *[one for one, wanted in refused], archive(),
                    changed(1), back(1), files())
        text = archived({path: f"bytes of {path}" for path in ["BUILD", "a/BUILD", "a/x"]})
        self.assertEqual(found[4:], [wanted for one, wanted in refused]
                         + [told(text), lines("- a/x"), [2], lines("BUILD", "a/BUILD")])

    def test_fifty_calls(self):
        calls = [put(f"f{k}", str(k)) for k in range(25)] + [get(f"f{k}") for k in range(25)]
        self.assertEqual(run(*calls), [[1]] * 25 + [told(str(k)) for k in range(25)])

    def test_list_handed_in_stays(self):
        calls = joined([*EXAMPLE, move("a", "d"), put("d/x.c", "other"), remove("BUILD"), files(), label("a", "b"),
                        glob("d", ["**"], ["*"]), glob_of_rows("d", [1, 97, 10 ** 18], [-1]), resolve("//d:x.c"),
                        match("**", "a"), keep(0), read("1:a0:."), read("1:a0:"), compare("."), changed(0), back(0),
                        archive()])
        before = list(calls)
        answers(calls)
        self.assertEqual(calls, before)

    def test_answers_keep_nothing(self):
        calls = joined([*EXAMPLE, files(), keep(0), archive()])
        first = answers(calls)
        self.assertEqual(answers(files()), [1, 0])
        self.assertEqual(run(back(0), changed(0), archive()), [KEPT, KEPT, told(".")])
        self.assertEqual(answers(calls), first)
        first.append(5)
        self.assertEqual(answers(calls), first[:-1])


class Refused(unittest.TestCase):
    """Seeded calls: whatever comes, the tree stays a tree, and a refused call changes nothing."""

    def state(self, calls):
        """The tree and the kept trees, each as its archive."""
        backs = [one for k in range(4) for one in [back(k), archive()]]
        found = run(*calls, archive(), *backs)[len(calls):]
        kept = [found[place + 1] if found[place] != KEPT else None for place in range(1, 9, 2)]
        return [found[0]] + kept

    def check_tree(self, calls):
        paths = bytes(last(*calls, files())[1:]).decode("ascii").splitlines()
        for path in paths:
            self.assertEqual([other for other in paths if other.startswith(path + "/")], [])
        sizes = [len(answer) - 1 for answer in run(*calls, *[get(path) for path in paths])[len(calls):]]
        self.assertLessEqual(sum(sizes), 8192)

    def test_only_what_may_change_changes(self):
        source = random.Random(1)
        refused = {}
        for round_number in range(60):
            calls = []
            before = self.state(calls)
            for step in range(25):
                calls.append(some_call(source))
                answer = last(*calls)
                after = self.state(calls)
                self.check_tree(calls)
                if answer[0] < 0:
                    refused[answer[0]] = True
                    self.assertEqual(after, before)
                self.check_step(calls[-1], before, after)
                before = after
        self.assertEqual(sorted(refused), ALL_REFUSALS)

    def check_step(self, one, before, after):
        if one[0] not in (0, 1, 2, 13, 16):
            self.assertEqual(after[0], before[0])
        if one[0] != 15:
            self.assertEqual(after[1:], before[1:])
        elif 0 <= one[1] <= 3:
            place = 1 + one[1]
            self.assertEqual(after, before[:place] + [before[0]] + before[place + 1:])

    def test_answers_are_those_of_the_calls_alone(self):
        source = random.Random(2)
        for round_number in range(50):
            calls = [some_call(source) for step in range(30)]
            numbers = answers(joined(calls))
            self.assertEqual(len(parted(numbers)), 30)
            taken = [one for one, answer in zip(calls, parted(numbers)) if answer[0] >= 0]
            wanted = [answer for answer in parted(numbers) if answer[0] >= 0]
            self.assertEqual(run(*taken), wanted)

    def test_archives_and_kept_trees_agree(self):
        source = random.Random(6)
        for round_number in range(200):
            calls = [some_call(source) for step in range(10)]
            kept = bytes(last(*calls, archive())[1:]).decode("latin-1")
            calls += [some_call(source) for step in range(5)]
            now = bytes(last(*calls, archive())[1:]).decode("latin-1")
            self.assertEqual(last(*calls, compare(now)), lines())
            self.assertEqual(run(*calls, read(now), archive())[-1], told(now))
            compared = last(*calls, compare(kept))
            self.assertEqual(last(read(kept), keep(3), read(now), changed(3)), compared)
            self.assertEqual(last(read(kept), compare(now)), lines(*self.turned(compared)))

    def turned(self, compared):
        texts = bytes(compared[1:]).decode("ascii").splitlines()
        return [{"+": "-", "-": "+", "~": "~"}[text[0]] + text[1:] for text in texts]


if __name__ == "__main__":
    unittest.main()
