"""Whole numbers from 0 on, as they are written in figures, of any length."""

# Python reads and writes 4300 figures at once, or as few as it is told, and refuses more
# with an error of its own. So a number goes in runs of figures, each as short as this.
RUN = 60


def is_number(text):
    """Whether a text is how a whole number from 0 on is written: no nought is ahead."""
    # Python takes other signs than 0 to 9 for figures, too, when it reads numbers.
    if not text.isascii() or not text.isdigit():
        return False
    return text == "0" or not text.startswith("0")


def number_of(text):
    """The number that figures tell."""
    ahead = len(text) % RUN
    number = int(text[:ahead] or "0")
    for at in range(ahead, len(text), RUN):
        number = number * 10 ** 60 + int(text[at:at + RUN])
    return number


def figures_of(number):
    """The figures of a number from 0 on."""
    runs = []
    while number >= 10 ** 60:
        number, run = divmod(number, 10 ** 60)
        runs.append(str(run).zfill(RUN))
    runs.append(str(number))
    return "".join(reversed(runs))
