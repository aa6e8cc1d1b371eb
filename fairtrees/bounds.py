"""The numbers by which the program is bounded."""

# The wishes that are none: every endless run is fair.
FREE = ()

# Standings of a machine, and so rooms of a layout.
MOST = 40

# Names that one standing bears.
NAMES = 8

# Wishes at once.
WISHES = 4

# Rows of a saying, and words of its text.
ROWS = 160
WORDS = 400

# Numbers of a run, path and ring together.
NUMBERS = 400

# Walks that are told at once.
WALKS = 2000

# Rows of a sheet, numbers of one row, least and greatest rows of one part, and how often their words change there.
SHEET = 1000
JOINED = 40
POINTS = 12
CHANGES = 2

# Rows of a saying of which a sheet is made, and wishes with it.
MADE_ROWS = 6
MADE_WISHES = 2

# Entries of a keeper's book.
BOOK = 300
