"""Stage 10: webs written as texts."""

from cubewebs.errors import NoText
from cubewebs.webs import MOST_PLACES

MOST_FIGURES = 20


def web_shown(web):
    """The text of the web: a row of how many places and ties it has, then a row for each tie."""
    many, ties = web
    return "\n".join([f"web {many} {len(ties)}"] + [f"tie {a} {b}" for a, b in ties])


def web_read(text):
    """The web that the text writes; else NoText."""
    if not isinstance(text, str):
        raise NoText(0)
    rows = text.split("\n")
    head = _two_behind("web", rows[0])
    if head is None or not 1 <= head[0] <= MOST_PLACES:
        raise NoText(1)
    many, due = head
    ties = []
    for at in range(1, len(rows)):
        tie = _two_behind("tie", rows[at])
        if len(ties) == due or not _may_follow(many, ties, tie):
            raise NoText(at + 1)
        ties.append(tie)
    if len(ties) < due:
        raise NoText(len(rows) + 1)
    return (many, tuple(ties))


def words_of(row):
    """The first word of a row and the list of the numbers behind it, None where a word is no number."""
    words = row.split(" ")
    numbers = [_number_of(word) for word in words[1:]]
    return (words[0], None if None in numbers else numbers)


def _number_of(word):
    """The number that the word writes, None where it writes none."""
    # What is no figure of ours, but one elsewhere, is a digit for Python as well.
    if not word.isascii() or not word.isdigit() or len(word) > MOST_FIGURES:
        return None
    if word[0] == "0" and word != "0":
        return None
    return int(word)


def _two_behind(due, row):
    """The two numbers behind the word that is due, None where the row is not so written."""
    word, numbers = words_of(row)
    if word != due or numbers is None or len(numbers) != 2:
        return None
    return (numbers[0], numbers[1])


def _may_follow(many, ties, tie):
    """Whether it is a tie of so many places that is greater than those ahead."""
    return tie is not None and tie[0] < tie[1] < many and (not ties or tie > ties[-1])
