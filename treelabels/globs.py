"""The call glob: the files of a package that patterns name."""

from treelabels.lines import in_lines
from treelabels.packages import BUILD, names_in_package, packages_of
from treelabels.paths import is_empty_or_path, parts_of
from treelabels.patterns import is_pattern, parts_match
from treelabels.refusals import PACKAGE, PATH, PATTERN


# The parts of each pattern; None if the numbers aren't patterns with their lengths before them.
def patterns_in(numbers):
    patterns = []
    place = 0
    while place < len(numbers):
        size = numbers[place]
        text = numbers[place + 1:place + 1 + size]
        # A length below 0, or one that reaches beyond the list, isn't the length of what was cut out.
        if len(text) != size or not is_pattern(text):
            return None
        patterns.append(parts_of(text))
        place = place + 1 + size
    return patterns


def matches_one_of(name, patterns):
    parts = parts_of(name)
    for pattern in patterns:
        if parts_match(parts, pattern):
            return True
    return False


# Promise 11.
def glob_package(tree, package, patterns_row, excludes_row):
    if not is_empty_or_path(package):
        return [PATH]
    patterns = patterns_in(patterns_row)
    excludes = patterns_in(excludes_row)
    if patterns is None or excludes is None:
        return [PATTERN]
    if package not in packages_of(tree):
        return [PACKAGE]
    names = [name for name in names_in_package(tree, package) if name != BUILD and matches_one_of(name, patterns)]
    return [0] + in_lines(sorted([name for name in names if not matches_one_of(name, excludes)]))
