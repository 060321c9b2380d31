import random
import unittest

import helper
from helper import (ABSENT, CLASH, PATH, WITHIN, call, files, get, label, lines, list_of, move, owner, packages, parted,
                    put, puts, remove, run, told)
from treelabels.desk import UnknownCall, answers

EXAMPLE = puts("BUILD", "a/BUILD", "a/x.c", "a/b/y.c", "a/c/BUILD")
SOME_PATHS = ["a", "b", "a/b", "a/b/c", "a-b", "a/a", "a/BUILD", "BUILD", "b/a/b", "b/c", "a/b/c/d/e/f/g/h", "", "/", ".."]
SOME_SIZES = [0, 1, 3, 2000, 4096, 4097]


def joined(calls):
    return [number for one in calls for number in one]


def some_call(source):
    path = source.choice(SOME_PATHS)
    number = source.choice([0, 0, 0, 0, 1, 2, 2, 3, 4, 7, 8])
    if number == 0:
        return put(path, "x" * source.choice(SOME_SIZES))
    if number in (2, 8):
        return call(number, path, source.choice(SOME_PATHS))
    return call(number, path)


def paths_in(answer):
    return bytes(answer[1:]).decode("latin-1").splitlines()


class Form(unittest.TestCase):
    def test_numbers_in_and_out(self):
        self.assertEqual(answers([0, 1, 97, 2, 5, 6]), [1, 1])
        self.assertEqual(answers([0, 1, 97, 2, 5, 6, 3, 1, 97]), [1, 1, 3, 0, 5, 6])
        self.assertEqual(answers([0, 1, 97, 0, 0, 1, 97, 0]), [1, 1, 1, 0])
        self.assertEqual(answers([1, 1, 97]), [1, -5])
        self.assertEqual(answers([0, 0, 0]), [1, -1])
        self.assertEqual(answers([0, 1, 97, 0, 2, 1, 97, 1, 98, 5]), [1, 1, 1, 1, 3, 0, 98, 10])
        self.assertEqual(answers([0, 3, 97, 47, 98, 0, 4, 0]), [1, 1, 4, 0, 97, 47, 10])
        self.assertEqual(answers([6]), [1, 0])
        self.assertEqual(answers([5]), [1, 0])
        self.assertEqual(answers([0, 5, 66, 85, 73, 76, 68, 0, 6, 7, 1, 97]), [1, 1, 2, 0, 10, 1, 0])
        self.assertEqual(answers([7, 1, 97]), [1, -7])
        self.assertEqual(answers([8, 1, 97, 1, 98]), [6, 0, 47, 47, 97, 58, 98])
        self.assertEqual(answers([8, 0, 0]), [1, -8])

    def test_only_whole_numbers(self):
        numbers = answers(joined([*EXAMPLE, *EXAMPLE, move("a", "d"), files(), list_of("d"), packages(), owner("d/x"),
                                  label("", "x"), remove("d"), get("BUILD"), get("d")]))
        self.assertEqual([number for number in numbers if type(number) is not int], [])
        self.assertIs(type(numbers), list)

    def test_no_such_call(self):
        for number in [-1, 18, 1000]:
            with self.assertRaises(UnknownCall):
                answers([5, number])


class OneBehindAnother(unittest.TestCase):
    def test_example_of_move(self):
        found = run(*EXAMPLE, move("a", "d"), files(), packages(), get("d/b/y.c"))
        wanted = [[4], lines("BUILD", "d/BUILD", "d/b/y.c", "d/c/BUILD", "d/x.c"), lines("", "d", "d/c"),
                  told("bytes of a/b/y.c")]
        self.assertEqual(found[5:], wanted)

    def test_several_calls(self):
        found = run(put("a/x", "1"), put("a", "2"), remove("a/x"), put("a", "2"), move("a", "a/b"), move("a", "b"),
                    put("a/y", "3"), list_of(""), move("b", "a/y"), get("a/y"), files(), get("zz"), get("b/"))
        wanted = [[1], CLASH, [1], [1], WITHIN, [1], [1], lines("a/", "b"), CLASH, told("3"), lines("a/y", "b"),
                  ABSENT, PATH]
        self.assertEqual(found, wanted)

    def test_fifty_calls(self):
        calls = [put(f"f{k}", str(k)) for k in range(25)] + [get(f"f{k}") for k in range(25)]
        self.assertEqual(run(*calls), [[1]] * 25 + [told(str(k)) for k in range(25)])

    def test_list_handed_in_stays(self):
        calls = joined([*EXAMPLE, move("a", "d"), put("d/x.c", "other"), remove("BUILD"), files(), label("a", "b")])
        before = list(calls)
        answers(calls)
        self.assertEqual(calls, before)

    def test_answers_keep_nothing(self):
        first = answers(joined([*EXAMPLE, files()]))
        self.assertEqual(answers(files()), [1, 0])
        self.assertEqual(answers(joined([*EXAMPLE, files()])), first)
        first.append(5)
        self.assertEqual(answers(joined([*EXAMPLE, files()])), first[:-1])


class Refused(unittest.TestCase):
    """Seeded calls: whatever comes, the tree stays a tree, and a refused call changes nothing."""

    def state(self, calls):
        paths = paths_in(run(*calls, files())[-1])
        found = run(*calls, *[get(path) for path in paths])
        return dict(zip(paths, found[len(calls):]))

    def check_tree(self, tree):
        for path in tree:
            self.assertEqual([other for other in tree if other.startswith(path + "/")], [])
        self.assertLessEqual(sum(len(answer) - 1 for answer in tree.values()), 8192)

    def test_refused_calls_change_nothing(self):
        source = random.Random(1)
        refused = {}
        for round_number in range(60):
            calls = []
            before = {}
            for step in range(25):
                calls.append(some_call(source))
                answer = helper.last(*calls)
                after = self.state(calls)
                self.check_tree(after)
                if answer[0] < 0:
                    refused[answer[0]] = True
                if answer[0] < 0 or calls[-1][0] > 2:
                    self.assertEqual(after, before)
                before = after
        self.assertEqual(sorted(refused), [-8, -7, -6, -5, -4, -3, -2, -1])

    def test_answers_are_those_of_the_calls_alone(self):
        source = random.Random(2)
        for round_number in range(50):
            calls = [some_call(source) for step in range(30)]
            numbers = answers(joined(calls))
            self.assertEqual(len(parted(numbers)), 30)
            kept = [one for one, answer in zip(calls, parted(numbers)) if answer[0] >= 0]
            wanted = [answer for answer in parted(numbers) if answer[0] >= 0]
            self.assertEqual(run(*kept), wanted)


if __name__ == "__main__":
    unittest.main()
