"""Labels: what label a text tells in a package."""

from treelabels.paths import is_empty_or_path, is_path, parts_of
from treelabels.refusals import LABEL, PATH

COLON = 58
ROOT = (47, 47)


def absolute_label(package, name):
    return ROOT + package + (COLON,) + name


def is_absolute_label(text):
    if text[:2] != ROOT or COLON not in text:
        return False
    # A path has no colon, so only the first one can stand between package and name.
    colon = text.index(COLON)
    return is_empty_or_path(text[2:colon]) and is_path(text[colon + 1:])


def told_label(package, text):
    if is_absolute_label(text):
        return text
    if text[:2] == ROOT and is_path(text[2:]):
        path = text[2:]
        return absolute_label(path, parts_of(path)[-1])
    if text[:1] == (COLON,) and is_path(text[1:]):
        return absolute_label(package, text[1:])
    if is_path(text):
        return absolute_label(package, text)
    return None


# Promise 9.
def label_in(package, text):
    if not is_empty_or_path(package):
        return [PATH]
    told = told_label(package, text)
    if told is None:
        return [LABEL]
    return [0] + list(told)
