"""The kinds of rows that some numbers tell apart."""


def place(numbers, integer):
    """How an integer stands to each number: whether it is below it, and whether it is equal to it."""
    return [(integer < number, integer == number) for number in numbers]


def equals(row, integer):
    """Which columns of a row an integer is equal to."""
    return [integer == part for part in row]


def stand(numbers, row):
    """What says which rows are of one kind with a row: those with the same stand."""
    return tuple([tuple(place(numbers, part)) for part in row]), tuple([tuple(equals(row, part)) for part in row])


def stretches(numbers, room):
    """The ends of each stretch around the numbers; the open ones are cut when room integers are in them."""
    if not numbers:
        return [(0, room + 1)]
    ends = [numbers[0] - room - 1, *numbers, numbers[-1] + room + 1]
    return [(ends[at], ends[at + 1]) for at in range(len(ends) - 1)]


def free_spots(numbers, row):
    """An integer in each stretch that is in no column, where the stretch has one."""
    spots = []
    # Of one integer more than the row has columns, one is in no column.
    for low, high in stretches(numbers, len(row) + 1):
        for spot in range(low + 1, high):
            if spot not in row:
                spots.append(spot)
                break
    return spots


def spots_beside(numbers, row):
    """A list, ascending, with one integer for each way in which integers can stand beside a row and some numbers."""
    return sorted(set([*numbers, *row, *free_spots(numbers, row)]))


class Kinds:
    """The kinds of rows of a table beside some numbers."""

    def __init__(self, table, numbers):
        self.numbers = tuple(sorted(set(numbers)))
        rows = [()]
        # Rows of one kind leave as many ways for the next column, so no kind is lost and none comes twice.
        for _ in table.columns:
            rows = [(*row, spot) for row in rows for spot in self.spots(row)]
        self._rows = rows

    def __len__(self):
        return len(self._rows)

    def each(self):
        """A list with one row of each kind."""
        return list(self._rows)

    def same(self, one, other):
        """Whether two rows are of one kind."""
        return stand(self.numbers, one) == stand(self.numbers, other)

    def alike(self, row, one, other):
        """Whether two integers are alike beside a row."""
        return place(self.numbers, one) == place(self.numbers, other) and equals(row, one) == equals(row, other)

    def spots(self, row):
        """A list, ascending, with one integer for each way in which integers can stand beside a row."""
        return spots_beside(self.numbers, row)
