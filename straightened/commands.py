"""Commands by their words alone, whatever a desk keeps."""

from straightened.claims import pair_of
from straightened.numerals import amount_of, count_of, direction_told, number_of, numbers_of

MOST_SIGNS = 8
MOST_DIGITS = 6
MOST_COUNT_DIGITS = 2
LETTERS = "abcdefghijklmnopqrstuvwxyz"
NAME_SIGNS = "abcdefghijklmnopqrstuvwxyz0123456789"

# What stands behind a deed's word: new and fresh are a name and a label that are not taken yet, products, numbers
# and lines take all words that are left.
DEEDS = {
    "poly": "new products", "term": "poly count count number", "change": "new poly poly",
    "linear": "new number number number number number number", "shear": "new direction numbers",
    "first": "new change", "second": "new change", "behind": "new change change", "undone": "new change",
    "step": "change place amount count", "led": "new change", "thread": "new lines", "lay": "new change thread",
    "word": "new change", "made": "new word", "turned": "new word", "least": "new word", "drop": "name",
    "claim": "fresh claimed name", "forget": "label",
}
QUESTIONS = {
    "undo": "", "redo": "", "state": "label", "states": "", "claimed": "label", "names": "", "show": "name",
    "degree": "name", "stop": "stopped", "steps": "change", "jacobian": "change", "at": "change number number",
    "on": "thread number", "pace": "word", "home": "word", "rounds": "word count", "walked": "thread",
    "crossing": "thread", "same": "word word",
}


def is_name(value):
    """Whether any value is a name."""
    if not isinstance(value, str) or not 1 <= len(value) <= MOST_SIGNS:
        return False
    return value[0] in LETTERS and all([sign in NAME_SIGNS for sign in value])


def is_command(value):
    """Whether any value is a command by its words alone."""
    return isinstance(value, str) and told_words(value) is not None


def is_deed(value):
    """Whether any value is a deed."""
    return is_command(value) and value.split(" ")[0] in DEEDS


def kinds_of(word):
    """The kinds of what stands behind the command's word."""
    shape = DEEDS[word] if word in DEEDS else QUESTIONS[word]
    return shape.split()


def told_words(command):
    """The tuple of the string's command word and of the list of what stands behind it; None if it is no command."""
    word, *left = command.split(" ")
    if word not in DEEDS and word not in QUESTIONS:
        return None
    values = []
    for kind in kinds_of(word):
        if kind in ("products", "numbers", "lines"):
            value, left = told_list(kind, left), []
        else:
            value, left = told_word_of(kind, left[0]) if left else None, left[1:]
        if value is None:
            return None
        values.append(value)
    return None if left else (word, values)


def told_word_of(kind, word):
    """What the word tells where this kind is asked for; None if it tells none."""
    match kind:
        case "count":
            return count_of(word, MOST_COUNT_DIGITS)
        case "place":
            return count_of(word, 1) if word in ("0", "1") else None
        case "number":
            return number_of(word, MOST_DIGITS)
        case "amount":
            return amount_of(word, MOST_DIGITS)
        case "direction":
            return direction_told(word, MOST_DIGITS)
        case "claimed":
            return word if pair_of(word) is not None else None
        case _:
            return word if is_name(word) else None


def told_list(kind, left):
    """What all words that are left tell where this kind is asked for; None if they do not tell it."""
    match kind:
        case "products":
            found = [product_of(word) for word in left]
            return None if any([product is None for product in found]) else found
        case "numbers":
            return numbers_of(left, MOST_DIGITS) if left else None
        case _:
            return lines_of(left)


def product_of(word):
    """The tuple (i, j, amount) that the word tells; None if it tells none."""
    parts = word.split(",")
    if len(parts) != 3:
        return None
    first, second = count_of(parts[0], MOST_COUNT_DIGITS), count_of(parts[1], MOST_COUNT_DIGITS)
    amount = amount_of(parts[2], MOST_DIGITS)
    if first is None or second is None or amount is None:
        return None
    return first, second, amount


def lines_of(left):
    """The tuple of the two lists of numbers with a by between; None if the words tell none."""
    if left.count("by") != 1:
        return None
    at = left.index("by")
    first, second = numbers_of(left[:at], MOST_DIGITS), numbers_of(left[at + 1:], MOST_DIGITS)
    return None if first is None or second is None else (first, second)
