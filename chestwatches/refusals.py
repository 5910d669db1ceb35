"""The numbers that are answered where a call is refused."""

OUT_OF_RANGE = -1
NO_PARTY = -2
TOLD_OR_SAME = -4
NO_HOUR = -6
WRITTEN_AGAINST = -7
FULL = -8
# A dose that may not be given is refused with this less the number of the reason.
DOSE_FORBIDDEN = -10
