"""Texts answered in lines."""

LINE_END = 10


def in_lines(texts):
    numbers = []
    for text in texts:
        numbers.extend(text)
        numbers.append(LINE_END)
    return numbers
