"""Numbers and answers as they are written in texts and rows: points 27, 32 and 35 of the document."""

from fewbends.errors import NoText

FIGURES = "0123456789"
MOST_FIGURES = 40


def read_number(word):
    figures = word[1:] if word.startswith("-") else word
    if not 1 <= len(figures) <= MOST_FIGURES or not all([sign in FIGURES for sign in figures]):
        raise NoText("a number isn't written by figures")
    # So with a needless 0 ahead, and -0, there are more signs than the number has.
    if str(int(word)) != word:
        raise NoText("a number is written otherwise than it should")
    return int(word)


def read_numbers(words):
    return [read_number(word) for word in words]


def show_numbers(numbers):
    return " ".join(["-" if number is None else str(number) for number in numbers])


def yes_or_no(told):
    return "yes" if told else "no"
