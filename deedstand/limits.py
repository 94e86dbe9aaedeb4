"""The limits, and what is raised beyond them."""

from deedstand.errors import TooMuch

MOST_TEXT = 4000
MOST_NODES = 300
MOST_CHUNKS = 900
MOST_BORN = 20000
MOST_MARKS = 40
MOST_ROUNDS = 60
MOST_SPLICES = 200
MOST_PICKS = 100
MOST_FOLDS = 40
LEAST_WIDTH = 4
MOST_WIDTH = 80
LEAST_HEIGHT = 1
MOST_HEIGHT = 40
MOST_PATTERN = 200
MOST_BRACKETS = 20
MOST_TIMES = 30
MOST_STATES = 1500
MOST_MODES = 8
MOST_RULES = 20
MOST_COLOUR = 8
MOST_FRONT = 60
MOST_SHEETS = 8
MOST_HANDS = 6
MOST_REGISTERS = 30
MOST_ROWS = 200
MOST_SIGNS = 2000
MOST_PACE = 1000
MOST_STEPS = 2000
MOST_PLAYS = 8
MOST_BLOCKS = 8
# The numbers of records are below this one.
NUMBERS_BELOW = 1000000000


def check_many(many, most, what):
    """Raise TooMuch if there are more than most."""
    if many > most:
        raise TooMuch(what)
