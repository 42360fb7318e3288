"""Sums that go round (point 16)."""

# One past the greatest number, 10 ** 12.
ROUND = 1000000000000


def reckon(one, word, other):
    if word == "+":
        return (one + other) % ROUND
    if word == "-":
        return (one - other) % ROUND
    if word == "*":
        return (one * other) % ROUND
    if word == "over":
        return 0 if other == 0 else one // other
    if word == "rest":
        return one if other == 0 else one % other
    if word == "<":
        return 1 if one < other else 0
    return 1 if one == other else 0


def round_place(place, size):
    return reckon(place, "rest", size)
