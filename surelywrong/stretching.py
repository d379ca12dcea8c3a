"""The causes of complaints, and the stretches of gaps at which they can be taken away."""

from surelywrong.blocks import chains_of, closers_of
from surelywrong.complaining import complaints_in
from surelywrong.finding import function_in, lets_found, reign_in
from surelywrong.usable import check_complaint, check_text

# What rows behind can help: the stretches of the other words end at the row of the complaint.
HELPED_BEHIND = ("unused", "falls", "open")


def cause_of(text, complaint):
    """The row that is the cause of a complaint, -1 if there is none."""
    check_text(text)
    check_complaint(complaints_in(text), complaint)
    chains = chains_of(text)
    return cause_in(text, chains, lets_found(text, chains), complaint)


def stretch_of(text, complaint):
    """The first and the last gap of the stretch of a complaint."""
    check_text(text)
    stretches = stretches_in(text)
    check_complaint(stretches, complaint)
    return stretches[complaint]


def stretches_in(text):
    """The stretch of each complaint of a tuple that is known to be a text, the complaints ascending."""
    chains = chains_of(text)
    found = lets_found(text, chains)
    closers = closers_of(text, chains)
    stretches = {}
    for row, word in complaints_in(text):
        if word == "unused":
            stretches[(row, word)] = reign_in(text, chains, row)
        elif word in ("falls", "open"):
            stretches[(row, word)] = (row + 1, closers.get(row, len(text)))
        else:
            stretches[(row, word)] = (cause_in(text, chains, found, (row, word)) + 1, row)
    return stretches


def cause_in(text, chains, found, complaint):
    """The cause of a complaint; found tells the let of each use."""
    row, word = complaint
    if word in HELPED_BEHIND:
        return row
    if word == "end":
        return -1
    if word == "use":
        cause = found[row]
    elif word in ("stop", "give"):
        cause = function_in(text, chains[row])
    else:
        cause = last_above(text, chains, row, word)
    return -1 if cause is None else cause


def last_above(text, chains, row, word):
    """The last row above at the level of a row because of which it has a complaint "twice" or "after"."""
    above = [other for other in range(row) if chains[other][-1] == chains[row][-1]]
    if word == "twice":
        return max([other for other in above if text[other][:2] == text[row][:2]])
    return max([other for other in above if text[other][0] in ("stop", "give")])
