"""The desk: a list of calls in, a list of their answers out."""

from treelabels.archives import archive_of, read_archive
from treelabels.comparison import compare_with_archive
from treelabels.globs import glob_package
from treelabels.kept import Holder, back_to_kept, changed_from_kept, keep_tree
from treelabels.labels import label_in, resolve_label
from treelabels.packages import all_packages, owner_of
from treelabels.patterns import match_name
from treelabels.tree import move_files, put_file, remove_files
from treelabels.views import all_files, get_file, list_directory

PUT = 0
REMOVE = 1
MOVE = 2
GET = 3
LIST = 4
FILES = 5
PACKAGES = 6
OWNER = 7
LABEL = 8
RESOLVE = 9
GLOB = 10
MATCH = 11
ARCHIVE = 12
READ = 13
COMPARE = 14
KEEP = 15
BACK = 16
CHANGED = 17


class UnknownCall(ValueError):
    pass


# The list that was handed in must stay as it is, so a place in it moves on instead.
class Reader:
    def __init__(self, calls):
        self.calls = calls
        self.place = 0

    def at_end(self):
        return self.place == len(self.calls)

    def read_number(self):
        number = self.calls[self.place]
        self.place = self.place + 1
        return number

    def read_row(self):
        size = self.read_number()
        start = self.place
        self.place = start + size
        return tuple(self.calls[start:self.place])


def answer_edit(tree, number, reader):
    path = reader.read_row()
    if number == PUT:
        return put_file(tree, path, reader.read_row())
    if number == REMOVE:
        return remove_files(tree, path)
    return move_files(tree, path, reader.read_row())


def answer_view(tree, number, reader):
    if number == FILES:
        return all_files(tree)
    path = reader.read_row()
    if number == GET:
        return get_file(tree, path)
    return list_directory(tree, path)


def answer_package(tree, number, reader):
    if number == PACKAGES:
        return all_packages(tree)
    if number == OWNER:
        return owner_of(tree, reader.read_row())
    package = reader.read_row()
    patterns = reader.read_row()
    return glob_package(tree, package, patterns, reader.read_row())


def answer_label(tree, number, reader):
    text = reader.read_row()
    if number == LABEL:
        return label_in(text, reader.read_row())
    return resolve_label(tree, text)


def answer_archive(tree, number, reader):
    if number == ARCHIVE:
        return archive_of(tree)
    text = reader.read_row()
    if number == READ:
        return read_archive(tree, text)
    return compare_with_archive(tree, text)


def answer_kept(holder, number, reader):
    k = reader.read_number()
    if number == KEEP:
        return keep_tree(holder, k)
    if number == BACK:
        return back_to_kept(holder, k)
    return changed_from_kept(holder, k)


def answer_call(holder, number, reader):
    if number in (PUT, REMOVE, MOVE):
        return answer_edit(holder.tree, number, reader)
    if number in (GET, LIST, FILES):
        return answer_view(holder.tree, number, reader)
    if number in (PACKAGES, OWNER, GLOB):
        return answer_package(holder.tree, number, reader)
    if number in (LABEL, RESOLVE):
        return answer_label(holder.tree, number, reader)
    if number == MATCH:
        pattern = reader.read_row()
        return match_name(pattern, reader.read_row())
    if number in (ARCHIVE, READ, COMPARE):
        return answer_archive(holder.tree, number, reader)
    if number in (KEEP, BACK, CHANGED):
        return answer_kept(holder, number, reader)
    raise UnknownCall(f"no call has the number {number}")


def answers(calls):
    holder = Holder()
    reader = Reader(calls)
    numbers = []
    while not reader.at_end():
        answer = answer_call(holder, reader.read_number(), reader)
        numbers.append(len(answer))
        numbers.extend(answer)
    return numbers
