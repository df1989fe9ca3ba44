"""Words: how the texts of questions and steps are parted, and the values that words write."""

from papervault.errors import NoQuestion
from papervault.names import is_value

# The greatest value has so many figures; more are refused ahead of reckoning with them.
MOST_FIGURES = 13


def words_in(text):
    """The words of a text, as a list of texts, values between quotes with them; NoQuestion."""
    if not isinstance(text, str):
        raise NoQuestion("no text")
    words = []
    place = 0
    # Up to the very end, as behind a blank at the end a word has to begin, too.
    while place <= len(text):
        end = end_of_word(text, place)
        words.append(text[place:end])
        if text[end:end + 1] not in ("", " "):
            raise NoQuestion("a quote amid a word")
        place = end + 1
    return words


def end_of_word(text, place):
    """The place behind the word that begins at a place; NoQuestion where none begins there."""
    if text[place:place + 1] == "'":
        return end_of_quote(text, place)
    end = place
    while text[end:end + 1] not in ("", " ", "'"):
        end = end + 1
    if end == place:
        raise NoQuestion("a word without signs")
    return end


def end_of_quote(text, place):
    """The place behind the quote that closes the one at a place; NoQuestion where it is left open."""
    last = text.find("'", place + 1)
    if last < 0:
        raise NoQuestion("a quote is left open")
    return last + 1


def value_of(word):
    """The value that a word writes; NoQuestion."""
    if not isinstance(word, str):
        raise NoQuestion("no text")
    value = word[1:-1] if is_quoted(word) else number_in(word)
    if not is_value(value):
        raise NoQuestion("a word that writes no value")
    return value


def is_quoted(word):
    """Whether a word stands between two quotes."""
    return len(word) >= 2 and word.startswith("'") and word.endswith("'")


def number_in(word):
    """The whole number that a word writes; NoQuestion."""
    figures = word[1:] if word.startswith("-") else word
    if not 1 <= len(figures) <= MOST_FIGURES or not are_figures(figures):
        raise NoQuestion("a word that writes no whole number")
    number = int(word)
    # A number is written by one word alone: not with noughts ahead, nor 0 with a minus.
    if str(number) != word:
        raise NoQuestion("a whole number is written otherwise")
    return number


def are_figures(signs):
    """Whether a text has figures alone."""
    for sign in signs:
        if not "0" <= sign <= "9":
            return False
    return True
