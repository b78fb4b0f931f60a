"""The words of texts and commands: what form they have, and what they stand for."""

MOST_DIGITS = 9
MOST_LETTERS = 12
LETTERS = "abcdefghijklmnopqrstuvwxyz"
# What stands for slips of any number, and for a list of nothing.
NOTHING = "-"


def is_number(word):
    """Whether the word is a number, without zeros in front."""
    if not word.isascii() or not word.isdigit() or len(word) > MOST_DIGITS:
        return False
    return len(word) == 1 or word[0] != "0"


def is_slips_word(word):
    """Whether the word is a number or what stands for any number."""
    return word == NOTHING or is_number(word)


def are_numbers(word):
    """Whether the word is a list of at least one number."""
    return all([is_number(part) for part in word.split(",")])


def may_be_numbers(word):
    """Whether the word is a list of numbers or what stands for an empty one."""
    return word == NOTHING or are_numbers(word)


def is_pair_word(word, sign):
    """Whether the word is two numbers with the sign between them."""
    parts = word.split(sign)
    return len(parts) == 2 and all([is_number(part) for part in parts])


def are_tasks(word):
    """Whether the word has the times of at least one task."""
    return all([is_pair_word(part, "/") for part in word.split(";")])


def are_models(word):
    """Whether the word has the tasks of at least one model."""
    return all([may_be_numbers(part) for part in word.split(";")])


def is_name(word):
    """Whether the word may be the name of a line."""
    return 1 <= len(word) <= MOST_LETTERS and all([letter in LETTERS for letter in word])


def slips_of(word):
    """The slips that the word stands for."""
    return None if word == NOTHING else int(word)


def slips_word(slips):
    """The word that stands for these slips."""
    return NOTHING if slips is None else str(slips)


def numbers_of(word):
    """The numbers that the word lists."""
    return () if word == NOTHING else tuple([int(part) for part in word.split(",")])


def pair_of(word, sign):
    """The two numbers of the word that have the sign between them."""
    first, second = word.split(sign)
    return (int(first), int(second))


def tasks_of(word):
    """The tasks whose times the word has."""
    return tuple([pair_of(part, "/") for part in word.split(";")])


def models_of(word):
    """The models whose tasks the word has."""
    return tuple([numbers_of(part) for part in word.split(";")])
