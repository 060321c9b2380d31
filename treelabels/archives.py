"""Archives: a tree written as one text, and read again."""

from treelabels.refusals import ARCHIVE
from treelabels.tree import Tree, put_file

COLON = 58
END = (46,)
NINE = 57
ZERO = 48

# No path and no file of a tree has a length with more digits.
MOST_DIGITS = 4


class NotAnArchive(ValueError):
    pass


def decimal(number):
    return [ord(digit) for digit in str(number)]


def with_length(text):
    return decimal(len(text)) + [COLON] + list(text)


# Promise 13.
def archive_of(tree):
    numbers = [0]
    for path in sorted(tree.files):
        numbers.extend(with_length(path) + with_length(tree.files[path]))
    return numbers + list(END)


def is_decimal(signs):
    if signs == () or not all([ZERO <= sign <= NINE for sign in signs]):
        return False
    return len(signs) == 1 or signs[0] != ZERO


def number_told(digits):
    number = 0
    for digit in digits:
        number = number * 10 + digit - ZERO
    return number


class ArchiveReader:
    def __init__(self, text):
        self.text = text
        self.place = 0

    def at_last(self):
        return self.text[self.place:] == END

    def read_length(self):
        signs = self.text[self.place:self.place + MOST_DIGITS + 1]
        if COLON not in signs:
            raise NotAnArchive("a length has no colon behind it")
        digits = signs[:signs.index(COLON)]
        if not is_decimal(digits):
            raise NotAnArchive("a length is not written in decimal")
        self.place = self.place + len(digits) + 1
        return number_told(digits)

    def read_text(self):
        length = self.read_length()
        text = self.text[self.place:self.place + length]
        if len(text) != length:
            raise NotAnArchive("a length is longer than what follows")
        self.place = self.place + length
        return text


def tree_in_archive(text):
    tree = Tree()
    reader = ArchiveReader(text)
    while not reader.at_last():
        path = reader.read_text()
        data = reader.read_text()
        # What put would refuse, or would put twice, no tree has.
        if put_file(tree, path, data) != [1]:
            raise NotAnArchive("no tree has these files")
    return tree


# Promise 14.
def read_archive(tree, text):
    try:
        archived = tree_in_archive(text)
    except NotAnArchive:
        return [ARCHIVE]
    tree.files = archived.files
    return [len(tree.files)]
