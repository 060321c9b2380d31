"""Labels: what label a text tells in a package, and which file a label means."""

from treelabels.packages import package_around, packages_of
from treelabels.paths import is_empty_or_path, is_path, parts_of, path_in_directory
from treelabels.refusals import ABSENT, CROSS, LABEL, PACKAGE, PATH

COLON = 58
ROOT = (47, 47)


def absolute_label(package, name):
    return ROOT + package + (COLON,) + name


def is_absolute_label(text):
    if text[:2] != ROOT or COLON not in text:
        return False
    # A path has no colon, so only the first one can stand between package and name.
    colon = text.index(COLON)
    return is_empty_or_path(text[2:colon]) and is_path(text[colon + 1:])


def told_label(package, text):
    if is_absolute_label(text):
        return text
    if text[:2] == ROOT and is_path(text[2:]):
        path = text[2:]
        return absolute_label(path, parts_of(path)[-1])
    if text[:1] == (COLON,) and is_path(text[1:]):
        return absolute_label(package, text[1:])
    if is_path(text):
        return absolute_label(package, text)
    return None


# Promise 9.
def label_in(package, text):
    if not is_empty_or_path(package):
        return [PATH]
    told = told_label(package, text)
    if told is None:
        return [LABEL]
    return [0] + list(told)


# Promise 10.
def resolve_label(tree, label):
    if not is_absolute_label(label):
        return [LABEL]
    colon = label.index(COLON)
    package = label[2:colon]
    packages = packages_of(tree)
    if package not in packages:
        return [PACKAGE]
    path = path_in_directory(package, label[colon + 1:])
    if not is_path(path):
        return [PATH]
    if package_around(packages, path) != package:
        return [CROSS]
    if path not in tree.files:
        return [ABSENT]
    return [0] + list(path)
