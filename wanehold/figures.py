"""Whole numbers written in figures."""

# No number of the wanes and rows of the document has more.
MOST_FIGURES = 31
MINUS = "-"


def read_figures(word, most):
    """Tell the number in at most so many figures, without a nought ahead but for 0 itself; None where it is none.

    Longer words aren't looked at: int() refuses to read texts of thousands of figures.
    """
    if len(word) > most or not word.isascii() or not word.isdecimal():
        return None
    if word[0] == "0" and word != "0":
        return None
    return int(word)


def read_signed(word, most):
    """Tell the number likewise, one below 0 with a minus ahead; None where it is none."""
    if not word.startswith(MINUS):
        return read_figures(word, most)
    number = read_figures(word[1:], most)
    if number is None or number == 0:
        return None
    return -number
