"""The rules: reading their text, asking what holds, showing them.

Rules are a dict in the order of telling: by (a line's first word, its round)
the list of what the line says. A line that is of no round has the round 0.
"""

from motionbank.words import coded, digits_of, is_topic, joined, lines_of, number_of, words_of

# In the order in which they are shown.
DEFAULTS = {"ROUNDS": 5, "OFFER": 3, "GAP": 1, "UNLIKE": 1, "SIZE": 4, "SEED": 0}
LEAST = {"ROUNDS": 1, "OFFER": 1, "GAP": 0, "UNLIKE": 0, "SIZE": 2, "SEED": 0}
GREATEST = {"ROUNDS": 9, "OFFER": 5, "GAP": 9, "UNLIKE": 1, "SIZE": 4, "SEED": 99999}
OF_A_ROUND = ("LEVELS", "TOPICS", "RELEASE")

GREATEST_ROUND = 9
GREATEST_LEVEL = 5
LATEST_RELEASE = 99999

NO_FAULT = 0
UNKNOWN_WORD = 1
WRONG_REST = 2
TOLD_BEFORE = 3
NO_SUCH_ROUND = 4


class Reading:
    def __init__(self, told, fault, line):
        self.told = told
        self.fault = fault
        self.line = line


def setting(told, name):
    return told.get((name, 0), [DEFAULTS[name]])[0]


def level_fits(told, stage, level):
    bounds = told.get(("LEVELS", stage), [1, GREATEST_LEVEL])
    return bounds[0] <= level <= bounds[1]


def topic_fits(told, stage, topic):
    return topic in told.get(("TOPICS", stage), [topic])


def release_of(told, stage):
    return told.get(("RELEASE", stage), [0])[0]


def is_number(word, least, greatest):
    return least <= number_of(word) <= greatest


def name_of(word):
    for name in list(DEFAULTS) + list(OF_A_ROUND):
        if coded(name) == word:
            return name
    return ""


# Each read_ answers the line's round and then what it says, or nothing if it isn't as told.

def read_setting(name, words):
    if len(words) != 1 or not is_number(words[0], LEAST[name], GREATEST[name]):
        return []
    value = number_of(words[0])
    # A room has two halves, so no odd size.
    if name == "SIZE" and value % 2 == 1:
        return []
    return [0, value]


def read_levels(words):
    if len(words) != 3 or not is_number(words[0], 1, GREATEST_ROUND):
        return []
    if not is_number(words[1], 1, GREATEST_LEVEL):
        return []
    if not is_number(words[2], number_of(words[1]), GREATEST_LEVEL):
        return []
    return [number_of(word) for word in words]


def read_topics(words):
    if len(words) < 2 or not is_number(words[0], 1, GREATEST_ROUND):
        return []
    topics = words[1:]
    for topic in topics:
        if not is_topic(topic) or topics.count(topic) > 1:
            return []
    return [number_of(words[0])] + topics


def read_release(words):
    if len(words) != 2 or not is_number(words[0], 1, GREATEST_ROUND):
        return []
    if not is_number(words[1], 0, LATEST_RELEASE):
        return []
    return [number_of(word) for word in words]


def read_rest(name, words):
    if name == "LEVELS":
        return read_levels(words)
    if name == "TOPICS":
        return read_topics(words)
    if name == "RELEASE":
        return read_release(words)
    return read_setting(name, words)


def take_line(told, words):
    name = name_of(words[0])
    if name == "":
        return UNKNOWN_WORD
    rest = read_rest(name, words[1:])
    if len(rest) == 0:
        return WRONG_REST
    key = (name, rest[0])
    if key in told:
        return TOLD_BEFORE
    told[key] = rest[1:]
    return NO_FAULT


def read_rules(text):
    told = {}
    line = 0
    for signs in lines_of(text):
        line += 1
        words = words_of(signs)
        if len(words) > 0:
            fault = take_line(told, words)
            if fault != NO_FAULT:
                return Reading({}, fault, line)
    # Only now, as ROUNDS may stand on the last line.
    if any([key[1] > setting(told, "ROUNDS") for key in told]):
        return Reading({}, NO_SUCH_ROUND, line + 1)
    return Reading(told, NO_FAULT, 0)


def shown_values(name, values):
    if name == "TOPICS":
        return values
    return [digits_of(value) for value in values]


def shown_lines(told):
    lines = [joined([coded(name), digits_of(setting(told, name))]) for name in DEFAULTS]
    for name in OF_A_ROUND:
        for key in told:
            if key[0] == name:
                lines.append(joined([coded(name), digits_of(key[1])] + shown_values(name, told[key])))
    return lines
