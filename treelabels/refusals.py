"""The numbers of the refusals."""

PATH = -1
LONG = -2
CLASH = -3
FULL = -4
ABSENT = -5
WITHIN = -6
PACKAGE = -7
LABEL = -8
