"""Names, numbers, things and values, as the words of a row write them."""

LETTERS = "abcdefghijklmnopqrstuvwxyz"
FIGURES = "0123456789"
MOST_LETTERS = 8
# The numbers end below 10 ** 12, so their figures alone bound them.
MOST_FIGURES = 12
# The words between two things; at is apart, for it asks for a name ahead of it.
BETWEEN = ("+", "-", "*", "over", "rest", "<", "=")


def made_of(word, signs, most):
    # Asked sign by sign: islower and isdigit let letters and figures of other scripts by.
    return 1 <= len(word) <= most and all([sign in signs for sign in word])


def is_name(word):
    return made_of(word, LETTERS, MOST_LETTERS)


def number_of(word):
    if not made_of(word, FIGURES, MOST_FIGURES):
        return None
    if word[0] == "0" and word != "0":
        return None
    return int(word)


def thing_of(word):
    if is_name(word):
        return word
    return number_of(word)


def value_of(words):
    if len(words) == 1:
        return value_of_one(words[0])
    if len(words) == 3:
        return value_of_three(words[0], words[1], words[2])
    return None


def value_of_one(word):
    thing = thing_of(word)
    if thing is None:
        return None
    return (thing,)


def value_of_three(ahead, between, behind):
    one = thing_of(ahead)
    other = thing_of(behind)
    if one is None or other is None:
        return None
    if between in BETWEEN or (between == "at" and is_name(ahead)):
        return (one, between, other)
    return None


def value_shown(value):
    return " ".join([str(part) for part in value])


def names_in(value):
    names = []
    # Every second one is a thing: the word between may be spelled like a name.
    for thing in value[::2]:
        if isinstance(thing, str) and thing not in names:
            names.append(thing)
    return names
