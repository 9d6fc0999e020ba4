"""The place of a share among so many things."""

from midpile.errors import NoShare


def check_share(part, whole):
    if whole < 1 or part < 0 or part > whole:
        # The numbers stay out of the words: Python does not write out very long ones.
        raise NoShare("a share has a whole from 1 on and a part from 0 to the whole")


def place(many, part, whole):
    # Checked ahead of the count, since what is no share is refused of no things too.
    check_share(part, whole)
    if many == 0:
        return 0
    rounded_up = (many * part + whole - 1) // whole
    # A part of 0 would give 0, but places are counted from 1.
    return max(1, rounded_up)
