"""The bounds of the language, as DOC.md names them."""

# The greatest variable of a shape.
VARIABLES = 199
# Nodes and levels of a shape.
NODES = 200
DEPTH = 30
# Groups of equations, and the clashes or repairs that are listed.
GROUPS = 80
LISTED = 50
# Data of a book, places of an expression, rows of a match.
DATAS = 6
PLACES = 60
ROWS = 8
# Shapes met from a shape, sizes that are counted, makers of a form, looks and ends of a tree.
MET = 200
SIZES = 40
FORM = 500
TREE = 1000
# Definitions of a book, steps of a run, parts of a value that is shown.
DEFINITIONS = 8
CALLS = 2000
SHOWN = 500
# Parameters of a plain definition.
PARAMETERS = 3
# Edits of a session, and of one batch.
EDITS = 60
BATCH = 20
