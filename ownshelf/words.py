"""The words of a row that is told to a desk, as they are written, whatever stands by them."""

from ownshelf.errors import NoName, NoNumber, NoRow, NoWay

LETTERS = "abcdefghijklmnopqrstuvwxyz"
FIGURES = "0123456789"
MOST_LETTERS = 8
MOST_FIGURES = 4
WAYS = ("stood", "stands", "strict")


def words_of(row):
    if not isinstance(row, str):
        raise NoRow("a row is a text")
    return row.split(" ")


def is_written(word, signs, most):
    return 1 <= len(word) <= most and all([sign in signs for sign in word])


def check_word(word):
    if not is_written(word, LETTERS, MOST_LETTERS):
        raise NoName("a name or a thing is one to eight small letters")


def number_of(word):
    if not is_written(word, FIGURES, MOST_FIGURES):
        raise NoNumber("a place is one to four figures")
    if word[0] == "0" and word != "0":
        raise NoNumber("a place has no noughts ahead")
    return int(word)


def check_way(word):
    if word not in WAYS:
        raise NoWay("a way is stood, stands or strict")
