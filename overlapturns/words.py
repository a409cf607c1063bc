"""The words that stand in texts: names, letters of arrays, numbers, earlier values."""

from overlapturns.limits import MOST_DISTANCE

BARRED = ("in", "out", "load", "store", "take", "step", "if", "else", "while", "end")
LONGEST_NAME = 8
MOST_LISTED = 4


def is_name(word):
    """Tell whether a word of a text is a name."""
    if word in BARRED or not 1 <= len(word) <= LONGEST_NAME:
        return False
    return all(["a" <= sign <= "z" for sign in word])


def is_letter(value):
    """Tell whether a value of any kind is the letter of an array."""
    return isinstance(value, str) and len(value) == 1 and "A" <= value <= "Z"


def number_within(word, least, most):
    """Return the number from least to most that the word writes, None if it writes none of these."""
    for number in range(least, most + 1):
        if str(number) == word:
            return number
    return None


def is_number(word):
    """Tell whether a word writes a number from 0 on."""
    return word == "0" or (word[:1] != "0" and word != "" and all(["0" <= sign <= "9" for sign in word]))


def earlier_value(word):
    """Return the name and the distance of a word like x@2, None if it is no such word."""
    name, sign, behind = word.partition("@")
    distance = number_within(behind, 1, MOST_DISTANCE)
    if sign == "" or distance is None or not is_name(name):
        return None
    return (name, distance)


def earlier_text(name, distance):
    """Return the word for the value that a name had some turns ago."""
    return f"{name}@{distance}"


def are_listed_names(words):
    """Tell whether the words may stand behind `in` or `out`, but for being different."""
    return 1 <= len(words) <= MOST_LISTED and all([is_name(word) for word in words])
