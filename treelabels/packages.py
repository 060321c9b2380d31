"""Packages: which directories are packages, and what belongs to them."""

from treelabels.lines import in_lines
from treelabels.paths import behind_directory, is_in_directory, is_path, path_in_directory
from treelabels.refusals import PACKAGE, PATH

BUILD = (66, 85, 73, 76, 68)


def packages_of(tree):
    packages = []
    for path in tree.files:
        package = path[:max(0, len(path) - len(BUILD) - 1)]
        if path == path_in_directory(package, BUILD):
            packages.append(package)
    # The order of the BUILD files is another one: a-b/BUILD is before a/BUILD, but a before a-b.
    return sorted(packages)


# Promise 7.
def all_packages(tree):
    return [0] + in_lines(packages_of(tree))


# None if the path belongs to no package.
def package_around(packages, path):
    around = [package for package in packages if is_in_directory(path, package)]
    return max(around, key=len, default=None)


# Promise 8.
def owner_of(tree, path):
    if not is_path(path):
        return [PATH]
    package = package_around(packages_of(tree), path)
    if package is None:
        return [PACKAGE]
    return [0] + list(package)


def names_in_package(tree, package):
    packages = packages_of(tree)
    return [behind_directory(path, package) for path in tree.files if package_around(packages, path) == package]
