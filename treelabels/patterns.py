"""Patterns: what they are, and which paths match them."""

from treelabels.paths import MOST_PART_BYTES, MOST_PARTS, MOST_PATH_BYTES, is_path, may_stand_in_part, parts_of
from treelabels.refusals import PATH, PATTERN

STAR = 42
TWO_STARS = (42, 42)

MOST_STARS = 4
MOST_TWO_STARS = 2


def is_pattern_part(text):
    if text == TWO_STARS:
        return True
    if len(text) < 1 or len(text) > MOST_PART_BYTES or text.count(STAR) > MOST_STARS:
        return False
    if any([pair == TWO_STARS for pair in zip(text, text[1:])]):
        return False
    return all([byte == STAR or may_stand_in_part(byte) for byte in text])


def is_pattern(text):
    if len(text) > MOST_PATH_BYTES:
        return False
    parts = parts_of(text)
    if len(parts) > MOST_PARTS or parts.count(TWO_STARS) > MOST_TWO_STARS:
        return False
    return all([is_pattern_part(part) for part in parts])


# A star may end at every place from the first one on that was reached before it.
def places_behind_star(reached, end):
    if reached == []:
        return []
    return list(range(reached[0], end + 1))


# All places that the pattern so far may have reached are kept, in order, so that no choice is taken back.
def part_matches(part, pattern_part):
    reached = [0]
    for sign in pattern_part:
        if sign == STAR:
            reached = places_behind_star(reached, len(part))
        else:
            reached = [place + 1 for place in reached if place < len(part) and part[place] == sign]
    return len(part) in reached


def parts_match(parts, pattern_parts):
    reached = [0]
    for pattern_part in pattern_parts:
        if pattern_part == TWO_STARS:
            reached = places_behind_star(reached, len(parts))
        else:
            reached = [place + 1 for place in reached
                       if place < len(parts) and part_matches(parts[place], pattern_part)]
    return len(parts) in reached


# Promise 12.
def match_name(pattern, name):
    if not is_pattern(pattern):
        return [PATTERN]
    if not is_path(name):
        return [PATH]
    return [1 if parts_match(parts_of(name), parts_of(pattern)) else 0]
