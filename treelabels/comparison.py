"""Comparison: where two trees differ."""

from treelabels.archives import NotAnArchive, tree_in_archive
from treelabels.lines import in_lines
from treelabels.refusals import ARCHIVE

GONE = (45, 32)
NEW = (43, 32)
UNLIKE = (126, 32)


def differences(tree, other):
    marked = []
    for path in sorted(set(tree.files) | set(other.files)):
        if path not in other.files:
            marked.append(GONE + path)
        elif path not in tree.files:
            marked.append(NEW + path)
        elif tree.files[path] != other.files[path]:
            marked.append(UNLIKE + path)
    return [0] + in_lines(marked)


# Promise 15.
def compare_with_archive(tree, text):
    try:
        archived = tree_in_archive(text)
    except NotAnArchive:
        return [ARCHIVE]
    return differences(tree, archived)
