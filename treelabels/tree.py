"""The tree of files, and the calls that change it: put, remove, move.

A tree has for each path the bytes of its file, both as tuples of whole numbers.
"""

from treelabels.paths import is_path, is_within
from treelabels.refusals import ABSENT, CLASH, FULL, LONG, PATH, WITHIN

MOST_FILES = 64
MOST_FILE_BYTES = 4096
MOST_TREE_BYTES = 8192


class Tree:
    def __init__(self):
        self.files = {}


# Edits of the one must not reach the other, so they don't share their files.
def copy_of(tree):
    copied = Tree()
    for path in tree.files:
        copied.files[path] = tree.files[path]
    return copied


def paths_at(tree, path):
    return [other for other in tree.files if other == path or is_within(other, path)]


def either_within(one, other):
    return is_within(one, other) or is_within(other, one)


# The file that the new bytes would replace does not count.
def would_be_full(tree, path, data):
    sizes = [len(tree.files[other]) for other in tree.files if other != path]
    return len(sizes) + 1 > MOST_FILES or sum(sizes) + len(data) > MOST_TREE_BYTES


# Promise 1.
def put_file(tree, path, data):
    if not is_path(path):
        return [PATH]
    if len(data) > MOST_FILE_BYTES:
        return [LONG]
    if any([either_within(path, other) for other in tree.files]):
        return [CLASH]
    if would_be_full(tree, path, data):
        return [FULL]
    new = 0 if path in tree.files else 1
    tree.files[path] = data
    return [new]


def files_without(tree, paths):
    files = {}
    for path in tree.files:
        if path not in paths:
            files[path] = tree.files[path]
    return files


# Promise 2.
def remove_files(tree, path):
    if not is_path(path):
        return [PATH]
    leaving = paths_at(tree, path)
    if leaving == []:
        return [ABSENT]
    tree.files = files_without(tree, leaving)
    return [len(leaving)]


def clashes_with_any(path, others):
    return path in others or any([either_within(path, other) for other in others])


# Promise 3.
def move_files(tree, a, b):
    if not is_path(a) or not is_path(b):
        return [PATH]
    leaving = paths_at(tree, a)
    if leaving == []:
        return [ABSENT]
    if is_within(b, a):
        return [WITHIN]
    arriving = [b + path[len(a):] for path in leaving]
    if not all([is_path(path) for path in arriving]):
        return [PATH]
    # Clashes are asked of the files that stay alone: moved files may take places that moved files leave.
    files = files_without(tree, leaving)
    if any([clashes_with_any(path, files) for path in arriving]):
        return [CLASH]
    for old, new in zip(leaving, arriving):
        files[new] = tree.files[old]
    tree.files = files
    return [len(leaving)]
