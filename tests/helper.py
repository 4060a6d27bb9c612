"""What the tests share: the calls by name, and answers taken apart call by call."""

from viewtables.oneworld import answers

LARGEST = 4294967295

# name: (number, how many whole numbers, whether a row comes behind them)
CALLS = {
    "begin": (0, 1, False),
    "view": (1, 1, False),
    "unview": (2, 1, False),
    "table": (3, 1, True),
    "viewis": (4, 1, False),
    "world": (5, 1, False),
    "share": (6, 2, False),
    "margin": (7, 2, False),
    "agree": (8, 2, False),
    "off": (9, 0, False),
    "worlds": (10, 0, False),
    "fits": (11, 1, False),
    "shown": (12, 2, False),
    "lonely": (13, 0, False),
    "fewest": (14, 0, False),
    "most": (15, 0, False),
    "together": (16, 1, False),
    "without": (17, 1, False),
    "sure": (18, 1, False),
    "ask": (19, 2, False),
}

# Questions 0 and 1 alike, 1 and 2 alike, 0 and 2 not: the views agree in twos, and no world fits.
RING = [
    ("begin", 3), ("view", 3), ("view", 6), ("view", 5),
    ("table", 0, [1, 0, 0, 1]), ("table", 1, [1, 0, 0, 1]), ("table", 2, [0, 1, 1, 0]),
]


def told(calls):
    """The calls, each a tuple (name, arguments ..), as the one list that is handed in."""
    numbers = []
    for name, *arguments in calls:
        number, count, has_row = CALLS[name]
        assert len(arguments) == count + has_row, name
        numbers.append(number)
        numbers.extend(arguments[:count])
        if has_row:
            numbers.append(len(arguments[-1]))
            numbers.extend(arguments[-1])
    return numbers


def apart(numbers):
    """The list that is given back as one list for each call."""
    found = []
    start = 0
    while start < len(numbers):
        end = start + 1 + numbers[start]
        assert start + 1 < end <= len(numbers), numbers
        found.append(numbers[start + 1:end])
        start = end
    return found


def ask(*calls):
    """What each of the calls answers on one new object."""
    found = apart(answers(told(calls)))
    assert len(found) == len(calls), found
    return found


def last(*calls):
    """What the last of the calls answers."""
    return ask(*calls)[-1]
