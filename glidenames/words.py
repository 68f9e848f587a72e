"""Words for numbers and FRACTIONS, written and read."""

from glidenames.fractions import is_fraction

FIGURES = "0123456789"

MOST_FIGURES = 40


def number_word(number):
    """The word for number."""
    return str(number)


def fraction_word(own):
    """The word for the FRACTION own."""
    top, below = own
    return number_word(top) if below == 1 else number_word(top) + "/" + number_word(below)


def words_for(numbers):
    """The words for numbers, a blank between."""
    return " ".join([number_word(number) for number in numbers])


def figures_told(word, most):
    """The number that word, of at most so many figures, tells; None if it is none such."""
    if not 1 <= len(word) <= most or not all([sign in FIGURES for sign in word]):
        return None
    if word.startswith("0") and word != "0":
        return None
    return int(word)


def number_told(word):
    """The number that word tells, None if it is no number word."""
    if not word.startswith("-"):
        return figures_told(word, MOST_FIGURES)
    number = figures_told(word[1:], MOST_FIGURES)
    return None if number is None or number == 0 else 0 - number


def fraction_told(word):
    """The FRACTION that word tells, None if it is no fraction word."""
    first, parted, rest = word.partition("/")
    top = number_told(first)
    below = number_told(rest) if parted else 1
    # A below of 1 is not written.
    if parted and below == 1:
        return None
    return (top, below) if is_fraction((top, below)) else None


def numbers_told(words):
    """The tuple of the numbers that words tell, None if one tells none."""
    numbers = tuple([number_told(word) for word in words])
    return None if None in numbers else numbers


def fractions_told(words):
    """The tuple of the FRACTIONS that words tell, None if one tells none."""
    found = tuple([fraction_told(word) for word in words])
    return None if None in found else found
