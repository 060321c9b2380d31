"""The calls that show files of the tree: get, list, files."""

from treelabels.lines import in_lines
from treelabels.paths import SLASH, behind_directory, is_empty_or_path, is_in_directory, is_path, parts_of
from treelabels.refusals import ABSENT, PATH


# Promise 4.
def get_file(tree, path):
    if not is_path(path):
        return [PATH]
    if path not in tree.files:
        return [ABSENT]
    return [0] + list(tree.files[path])


def parts_in_directory(inside):
    shown = {}
    for path in inside:
        parts = parts_of(path)
        shown[parts[0]] = parts[0] if len(parts) == 1 else parts[0] + (SLASH,)
    return shown


# Promise 5.
def list_directory(tree, directory):
    if not is_empty_or_path(directory):
        return [PATH]
    inside = [behind_directory(path, directory) for path in tree.files if is_in_directory(path, directory)]
    # The empty path is a directory even when the tree has no file.
    if directory != () and inside == []:
        return [ABSENT]
    shown = parts_in_directory(inside)
    # Sorted before the slash is put on, because the slash does not count in the order.
    return [0] + in_lines([shown[part] for part in sorted(shown)])


# Promise 6.
def all_files(tree):
    return [0] + in_lines(sorted(tree.files))
