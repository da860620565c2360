"""The lines, words and numbers of a text of bytes."""

LINE_END = 10
BLANK = 32
LAST_SIGN = 126
HASH = 35
MINUS = 45
ZERO = 48
NINE = 57
MOST_DIGITS = 10


def bytes_of(text):
    return [ord(sign) for sign in text]


def lines_of(text):
    lines = []
    line = []
    for byte in text:
        if byte == LINE_END:
            lines.append(line)
            line = []
        else:
            line.append(byte)
    if len(line) > 0:
        lines.append(line)
    return lines


def has_wrong_byte(line):
    return any([byte < BLANK or byte > LAST_SIGN for byte in line])


def words_of(line):
    """The words of a line without wrong bytes, each a list of bytes."""
    words = []
    word = []
    for byte in line:
        if byte != BLANK:
            word.append(byte)
        elif len(word) > 0:
            words.append(word)
            word = []
    if len(word) > 0:
        words.append(word)
    return words


def is_passed_over(words):
    return len(words) == 0 or words[0][0] == HASH


def number_of(word):
    """The number that the word is, or None if it is none."""
    if word == [ZERO]:
        return 0
    digits = word[1:] if word[0] == MINUS else word
    if not 1 <= len(digits) <= MOST_DIGITS or digits[0] == ZERO:
        return None
    value = 0
    for byte in digits:
        if not ZERO <= byte <= NINE:
            return None
        value = 10 * value + byte - ZERO
    return -value if word[0] == MINUS else value


def numbers_of(words):
    """The numbers that the words are, or None if one of them is none."""
    numbers = [number_of(word) for word in words]
    return None if None in numbers else numbers
