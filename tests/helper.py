"""Writes calls and reads answers, so that the tests can speak in texts.

Texts are Python's str, one character for each byte.
"""

from treelabels.desk import answers

PATH, LONG, CLASH, FULL, ABSENT, WITHIN = [-1], [-2], [-3], [-4], [-5], [-6]
PACKAGE, LABEL, CROSS, PATTERN, ARCHIVE, KEPT = [-7], [-8], [-9], [-10], [-11], [-12]


def numbers_of(text):
    return list(text.encode("latin-1"))


def call(number, *rows):
    numbers = [number]
    for row in rows:
        numbers += [len(row)] + numbers_of(row)
    return numbers


def put(path, data=""):
    return call(0, path, data)


def remove(path):
    return call(1, path)


def move(a, b):
    return call(2, a, b)


def get(path):
    return call(3, path)


def list_of(path):
    return call(4, path)


def files():
    return call(5)


def packages():
    return call(6)


def owner(path):
    return call(7, path)


def label(package, text):
    return call(8, package, text)


def resolve(text):
    return call(9, text)


def row_of(texts):
    """Each text's length, and then its bytes."""
    return [number for text in texts for number in [len(text)] + numbers_of(text)]


def glob_of_rows(package, patterns, excludes):
    """Like glob, but with the two lists of numbers as they are."""
    return call(10, package) + [len(patterns)] + patterns + [len(excludes)] + excludes


def glob(package, patterns=(), excludes=()):
    return glob_of_rows(package, row_of(patterns), row_of(excludes))


def match(pattern, name):
    return call(11, pattern, name)


def archive():
    return call(12)


def read(text):
    return call(13, text)


def compare(text):
    return call(14, text)


def keep(k):
    return [15, k]


def back(k):
    return [16, k]


def changed(k):
    return [17, k]


def archived(tree):
    """The text of files that stand in the order of the dict."""
    return "".join(f"{len(path)}:{path}{len(data)}:{data}" for path, data in tree.items()) + "."


def puts(*paths):
    """One put for each path, each with other bytes."""
    return [put(path, f"bytes of {path}") for path in paths]


def parted(numbers):
    """One list for each call, without its count."""
    found = []
    place = 0
    while place < len(numbers):
        size = numbers[place]
        found.append(numbers[place + 1:place + 1 + size])
        place += 1 + size
    assert place == len(numbers)
    return found


def run(*calls):
    """What each call answers, one behind another on one object."""
    return parted(answers([number for one in calls for number in one]))


def last(*calls):
    return run(*calls)[-1]


def told(text):
    """The answer 0 with a text behind it."""
    return [0] + numbers_of(text)


def lines(*texts):
    """The answer 0 with texts in lines behind it."""
    return told("".join(text + "\n" for text in texts))
