"""Lists of bytes: their lines and words, numbers and topics."""

LINE_END = 10
BLANK = 32
DIGIT_ZERO = 48
DIGIT_NINE = 57
FIRST_LETTER = 65
LAST_LETTER = 90
GREATEST_BYTE = 255
MOST_DIGITS = 5
MOST_LETTERS = 8


def coded(text):
    return [ord(sign) for sign in text]


def are_within(numbers, least, greatest):
    return all([least <= number <= greatest for number in numbers])


def are_bytes(numbers):
    return are_within(numbers, 0, GREATEST_BYTE)


def is_topic(word):
    return 1 <= len(word) <= MOST_LETTERS and are_within(word, FIRST_LETTER, LAST_LETTER)


def number_of(word):
    # -1 is below the least of every range, so what is no number is in none.
    if not 1 <= len(word) <= MOST_DIGITS or not are_within(word, DIGIT_ZERO, DIGIT_NINE):
        return -1
    value = 0
    for sign in word:
        value = 10 * value + sign - DIGIT_ZERO
    return value


def digits_of(number):
    return coded(str(number))


def parted(numbers, mark):
    parts = []
    part = []
    for number in numbers:
        if number == mark:
            parts.append(part)
            part = []
        else:
            part.append(number)
    parts.append(part)
    return parts


def lines_of(text):
    return parted(text, LINE_END)


def words_of(line):
    return [word for word in parted(line, BLANK) if len(word) > 0]


def joined(words):
    line = []
    for word in words:
        if len(line) > 0:
            line.append(BLANK)
        line.extend(word)
    return line
