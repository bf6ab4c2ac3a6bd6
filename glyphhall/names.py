"""The words of a row, and which of them are names, numbers or items of rules."""

FIGURES = "0123456789"
NAME_SIGNS = "abcdefghijklmnopqrstuvwxyz0123456789"
LONGEST_NAME = 12
LONGEST_NUMBER = 5
CLASS_SIGN = "@"


def words_of(row):
    return [word for word in row.split(" ") if word != ""]


def made_of(word, signs):
    # Asked sign by sign, since Python's own isdigit and isalpha know signs of other scripts too.
    return all([sign in signs for sign in word])


def is_name(word):
    return 1 <= len(word) <= LONGEST_NAME and made_of(word, NAME_SIGNS)


def is_number(word):
    """Whether the word is a number where none with - ahead may stand."""
    if not 1 <= len(word) <= LONGEST_NUMBER or not made_of(word, FIGURES):
        return False
    return word == "0" or word[0] != "0"


def is_signed_number(word):
    """Whether the word is a number where one with - ahead may stand too."""
    if word.startswith("-"):
        return word != "-0" and is_number(word[1:])
    return is_number(word)


def class_of_item(item):
    """The class's name in an item that stands for a class."""
    return item[len(CLASS_SIGN):]


def is_class_item(word):
    return word.startswith(CLASS_SIGN) and is_name(class_of_item(word))


def is_item(word):
    return is_name(word) or is_class_item(word)


def all_names(words):
    return all([is_name(word) for word in words])


def all_signed_numbers(words):
    return all([is_signed_number(word) for word in words])


def all_items(words):
    return all([is_item(word) for word in words])
