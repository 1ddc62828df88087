"""Shares written as a text, and read from one."""

from kindsgathered.errors import NoText
from kindsgathered.shares import MOST_KINDS, MOST_SHARE, check_shares


def show(shares):
    """The text of shares: their numbers with one blank between each two."""
    check_shares(shares)
    return " ".join([str(share) for share in shares])


def is_share_word(word):
    """Whether a word is a share as it is written."""
    return word in [str(share) for share in range(1, MOST_SHARE + 1)]


def read(text):
    """The shares that a text is written of."""
    if not isinstance(text, str):
        raise NoText(0)
    words = text.split(" ")
    for at, word in enumerate(words):
        if at == MOST_KINDS or not is_share_word(word):
            raise NoText(at)
    return tuple([int(word) for word in words])
