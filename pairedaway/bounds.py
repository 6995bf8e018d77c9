"""The limits of the program, each a plain integer."""

MAX_LETTERS = 4
MAX_STATES = 8
MAX_ROWS = 400
MAX_LENGTH = 400

MAX_PAIRS = 6
MAX_WINDOW = 3

MAX_STEPS = 10000

MAX_EDITS = 60
BATCH = 20
