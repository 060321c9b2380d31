"""Packages: which directories are packages, and what belongs to them."""

from treelabels.lines import in_lines
from treelabels.paths import SLASH, is_in_directory, is_path
from treelabels.refusals import PACKAGE, PATH

BUILD = (66, 85, 73, 76, 68)


def build_file_of(package):
    if package == ():
        return BUILD
    return package + (SLASH,) + BUILD


def packages_of(tree):
    packages = []
    for path in tree.files:
        package = path[:max(0, len(path) - len(BUILD) - 1)]
        if path == build_file_of(package):
            packages.append(package)
    # The order of the BUILD files is another one: a-b/BUILD is before a/BUILD, but a before a-b.
    return sorted(packages)


# Promise 7.
def all_packages(tree):
    return [0] + in_lines(packages_of(tree))


def packages_around(tree, path):
    return [package for package in packages_of(tree) if is_in_directory(path, package)]


# Promise 8.
def owner_of(tree, path):
    if not is_path(path):
        return [PATH]
    around = packages_around(tree, path)
    if around == []:
        return [PACKAGE]
    return [0] + list(max(around, key=len))
