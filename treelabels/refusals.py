"""The numbers of the refusals."""

PATH = -1
LONG = -2
CLASH = -3
FULL = -4
ABSENT = -5
WITHIN = -6
PACKAGE = -7
LABEL = -8
CROSS = -9
PATTERN = -10
ARCHIVE = -11
KEPT = -12
