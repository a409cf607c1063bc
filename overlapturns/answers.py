"""What consoles answer to lines that ask about a program for a loop and leave it as it is.

Each answer is told for the words of a line, None if the line is none that asks so.
"""

from overlapturns.counts import counts_of
from overlapturns.ends import first_unlike
from overlapturns.errors import NotRight
from overlapturns.limits import MOST_COUNT
from overlapturns.mending import needless, wrong_distances
from overlapturns.sides import sides_of
from overlapturns.times import time_of
from overlapturns.touching import first_beyond
from overlapturns.verdicts import first_error, wrong_rhythm
from overlapturns.words import is_letter, number_within


def listed(numbers):
    """Return numbers with blanks between, `none` if there are none."""
    return " ".join([str(number) for number in numbers] or ["none"])


def told_right(loop, program, words):
    """Answer `right` and `right N`."""
    sides = sides_of(loop, program)
    if len(words) == 1:
        error = first_error(sides)
        if error is None:
            return "yes"
        place = error[1] if error[1][0] == "out" else error[1][1:]
        return f"{error[0]} {place[0]} {place[1]}"
    count = number_within(words[1], 0, MOST_COUNT)
    if len(words) != 2 or count is None:
        return None
    return "yes" if first_unlike(sides, count) is None else "no"


def told_wrong(loop, program, words):
    """Answer `wrong`."""
    return str(counts_of(wrong_rhythm(sides_of(loop, program)))) if len(words) == 1 else None


def told_beyond(loop, program, words):
    """Answer `beyond`."""
    if len(words) != 1:
        return None
    beyond = first_beyond(loop, program)
    return "never" if beyond is None else f"{beyond[0]} {beyond[1]} {beyond[2]}"


def told_needless(loop, program, words):
    """Answer `needless`."""
    if len(words) != 1:
        return None
    try:
        return listed(needless(loop, program))
    except NotRight:
        return "wrong"


def told_over(loop, program, words):
    """Answer `over A B`."""
    if len(words) != 3 or not is_letter(words[1]) or not is_letter(words[2]) or words[1] == words[2]:
        return None
    try:
        return listed(wrong_distances(loop, program, words[1], words[2]))
    except NotRight:
        return "wrong"


def told_time(loop, program, words):
    """Answer `time N`."""
    count = number_within(words[-1], 0, MOST_COUNT)
    if len(words) != 2 or count is None:
        return None
    form = time_of(program)
    return str(form(count))


def told_rise(loop, program, words):
    """Answer `rise`."""
    top, bottom = time_of(program).rise
    return f"{top}/{bottom}" if len(words) == 1 else None


def told_text(loop, program, words):
    """Answer `show`."""
    return program.text if len(words) == 1 else None


ASKED = {
    "right": told_right,
    "wrong": told_wrong,
    "beyond": told_beyond,
    "needless": told_needless,
    "over": told_over,
    "time": told_time,
    "rise": told_rise,
    "show": told_text,
}


def answer_to(loop, program, words):
    """Return the answer to a line of these words, None if the line is none that asks something."""
    if words[0] not in ASKED:
        return None
    told = ASKED[words[0]]
    return told(loop, program, words)
