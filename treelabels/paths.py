"""Paths: what they are, and how one lies within another.

A text is a tuple of bytes, because tuples compare just as the order of texts is told.
"""

DASH = 45
DOT = 46
SLASH = 47
UNDERSCORE = 95

MOST_PART_BYTES = 32
MOST_PARTS = 8
MOST_PATH_BYTES = 96


def may_stand_in_part(byte):
    if 97 <= byte <= 122 or 65 <= byte <= 90 or 48 <= byte <= 57:
        return True
    return byte in (DASH, DOT, UNDERSCORE)


def is_part(text):
    if len(text) < 1 or len(text) > MOST_PART_BYTES:
        return False
    if text == (DOT,) or text == (DOT, DOT):
        return False
    return all([may_stand_in_part(byte) for byte in text])


# Empty texts stand in the answer too, so that is_path sees slashes that are out of place.
def parts_of(text):
    parts = []
    start = 0
    for place, byte in enumerate(text):
        if byte == SLASH:
            parts.append(text[start:place])
            start = place + 1
    parts.append(text[start:])
    return parts


def is_path(text):
    if len(text) > MOST_PATH_BYTES:
        return False
    parts = parts_of(text)
    return len(parts) <= MOST_PARTS and all([is_part(part) for part in parts])


def is_empty_or_path(text):
    return text == () or is_path(text)


def is_within(path, above):
    return path[:len(above) + 1] == above + (SLASH,)


# Every path is within the empty path, though it does not begin with a slash.
def is_in_directory(path, directory):
    return directory == () or is_within(path, directory)


def behind_directory(path, directory):
    if directory == ():
        return path
    return path[len(directory) + 1:]


def path_in_directory(directory, name):
    if directory == ():
        return name
    return directory + (SLASH,) + name
