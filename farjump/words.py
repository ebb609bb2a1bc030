"""What is a whole number, and what is a word."""

LONGEST_WORD = 8


def is_whole(thing):
    # A truth is an int to Python, but no whole number here.
    return isinstance(thing, int) and not isinstance(thing, bool)


def is_word(thing):
    if not isinstance(thing, str) or not 1 <= len(thing) <= LONGEST_WORD:
        return False
    # Not islower or isalpha: they let by letters other than a to z.
    return all(["a" <= sign <= "z" for sign in thing])
