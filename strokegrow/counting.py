"""The rule of the counts: how the numbers of each letter follow from those of the rounds ahead."""


def growth_table(rules):
    """A row for each letter: how often each letter of the rules stands in its word."""
    letters = rules.letters()
    return [[rules.word(letter).count(younger) for younger in letters] for letter in letters]


def even_table(many):
    """The table of so many rows with 1 along its diagonal and 0 elsewhere."""
    return [[1 if row == column else 0 for column in range(many)] for row in range(many)]


def row_by_table(row, table):
    """The rows of the table added, each of them as often as the row tells."""
    return [sum([number * table[k][column] for k, number in enumerate(row)]) for column in range(len(table))]


def product(one, other):
    """The product of two tables of as many rows."""
    return [row_by_table(row, other) for row in one]


def trace(table):
    """The numbers along the diagonal, added."""
    return sum([row[k] for k, row in enumerate(table)])


def less_along_diagonal(table, number):
    """The table with the number taken away along its diagonal."""
    even = even_table(len(table))
    return [[entry - number * kept for entry, kept in zip(row, even[k])] for k, row in enumerate(table)]


def rule(rules):
    """The numbers by which the counts of a round follow from those of as many rounds ahead, the last one's first."""
    table = growth_table(rules)
    numbers = []
    rest = even_table(len(table))
    # a table fulfils its own characteristic equation, and so the counts of every start word do, from round 0 on;
    # by Faddeev and LeVerrier each trace is just so many times a number of it, so that // leaves no rest
    for many in range(1, len(table) + 1):
        grown = product(table, rest)
        number = trace(grown) // many
        numbers.append(number)
        rest = less_along_diagonal(grown, number)
    return numbers


def next_row(rule, rows):
    """The row that follows these rows by the rule."""
    return [
        sum([number * rows[-back][column] for back, number in enumerate(rule, start=1)])
        for column in range(len(rows[-1]))
    ]
