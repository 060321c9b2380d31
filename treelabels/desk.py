"""The desk: a list of calls in, a list of their answers out."""

from treelabels.labels import label_in
from treelabels.packages import all_packages, owner_of
from treelabels.tree import Tree, move_files, put_file, remove_files
from treelabels.views import all_files, get_file, list_directory

PUT = 0
REMOVE = 1
MOVE = 2
GET = 3
LIST = 4
FILES = 5
PACKAGES = 6
OWNER = 7
LABEL = 8


class UnknownCall(ValueError):
    pass


# The list that was handed in must stay as it is, so a place in it moves on instead.
class Reader:
    def __init__(self, calls):
        self.calls = calls
        self.place = 0

    def at_end(self):
        return self.place == len(self.calls)

    def read_number(self):
        number = self.calls[self.place]
        self.place = self.place + 1
        return number

    def read_row(self):
        size = self.read_number()
        start = self.place
        self.place = start + size
        return tuple(self.calls[start:self.place])


def answer_edit(tree, number, reader):
    path = reader.read_row()
    if number == PUT:
        return put_file(tree, path, reader.read_row())
    if number == REMOVE:
        return remove_files(tree, path)
    return move_files(tree, path, reader.read_row())


def answer_question(tree, number, reader):
    if number == GET:
        return get_file(tree, reader.read_row())
    if number == LIST:
        return list_directory(tree, reader.read_row())
    if number == FILES:
        return all_files(tree)
    if number == PACKAGES:
        return all_packages(tree)
    if number == OWNER:
        return owner_of(tree, reader.read_row())
    if number == LABEL:
        package = reader.read_row()
        return label_in(package, reader.read_row())
    raise UnknownCall(f"no call has the number {number}")


def answers(calls):
    tree = Tree()
    reader = Reader(calls)
    numbers = []
    while not reader.at_end():
        number = reader.read_number()
        if number in (PUT, REMOVE, MOVE):
            answer = answer_edit(tree, number, reader)
        else:
            answer = answer_question(tree, number, reader)
        numbers.append(len(answer))
        numbers.extend(answer)
    return numbers
