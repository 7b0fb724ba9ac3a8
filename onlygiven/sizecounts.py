"""How many makers of a size there are.

A state is a pair (hand, atom): the kinds of all variables at hand, ascending with repetitions, and the wanted atom.
States have numbers, and a row is a tuple of such numbers: the makers of a head, one behind the other.
"""

from onlygiven.stands import stand_with


def state_with(hand, atom):
    return (tuple(sorted(hand)), atom)


def copies_of(outlook, hand, kind):
    """How many names of the book and variables at hand have this kind."""
    return len([entry for entry in outlook.book if entry[1] == kind]) + hand.count(kind)


class SizeCounts:
    """How many makers of each size there are, for all states that a maker of the wish of at most this size can have.

    most has for each state how many places are left to it at most. lines has for each state and each kind of its heads
    a pair: how many such heads there are, and the row of their makers. counts has for each state the numbers of its
    makers by size, ways for each row how many ways there are to fill it, by the places that are filled.
    """

    def __init__(self, outlook, size):
        self.outlook = outlook
        self.numbers = {}
        self.most = {}
        self.lines = {}
        self.explore(size)
        self.limits = {}
        for state, lines in self.lines.items():
            for _, row in lines.values():
                self.note_row(row, self.most[state] - 1)
        self.counts = {state: [0] for state in self.lines}
        self.ways = {row: [] for row in self.limits}
        for length in range(size):
            self.count_rows(length)
            self.count_states(length)

    def explore(self, size):
        """Finds all states, those first to which more places are left: so none has to be looked at again."""
        waiting = {size: [state_with(self.outlook.hand, self.outlook.wanted)]}
        for left in range(size, 0, -1):
            states = waiting.pop(left, [])
            found = []
            for state in states:
                number = self.number_of_state(state)
                if number not in self.lines:
                    rows = self.rows_behind(state, left)
                    self.most[number] = left
                    self.lines[number] = self.lines_for(state, rows)
                    found.extend([entry for row in rows.values() for entry in row])
            for places, behind in found:
                waiting.setdefault(places, []).append(behind)

    def number_of_state(self, state):
        return self.numbers.setdefault(state, len(self.numbers))

    def rows_behind(self, state, left):
        """For each kind of head with room for its makers: how many places each of these has at most, and its state."""
        outlook = self.outlook
        hand, atom = state
        stand = stand_with(hand, atom)
        return {
            kind: [
                (left - size + outlook.least[below], state_with(hand + outlook.rows[part], outlook.ends[part]))
                for part, below in zip(outlook.rows[kind], outlook.steps[stand][kind])
            ]
            for kind, size in outlook.sizes.get(stand, {}).items() if size <= left
        }

    def lines_for(self, state, rows):
        """The lines of a state that has these rows behind it."""
        return {
            kind: (copies_of(self.outlook, state[0], kind), tuple([self.number_of_state(behind) for _, behind in row]))
            for kind, row in rows.items()
        }

    def note_row(self, row, places):
        """The row, and what is left of it behind each of its makers, are needed up to so many places."""
        for k in range(len(row) + 1):
            rest = row[k:]
            self.limits[rest] = max(self.limits.get(rest, 0), places - k)

    def count_rows(self, length):
        """For each row the number of ways to fill it with makers that have so many places together."""
        for row, limit in self.limits.items():
            if length <= limit:
                self.ways[row].append(self.ways_of(row, length))

    def ways_of(self, row, length):
        if not row:
            return 1 if length == 0 else 0
        first = self.counts[row[0]]
        rest = self.ways[row[1:]]
        # Sizes that were not counted are such that the others of the row have no room beside them.
        most = min(length, len(first) - 1)
        return sum([first[size] * rest[length - size] for size in range(1, most + 1)])

    def count_states(self, length):
        """For each state the number of makers that have so many places below their own."""
        for state, lines in self.lines.items():
            if length < self.most[state]:
                self.counts[state].append(sum([many * self.ways[row][length] for many, row in lines.values()]))

    def rows_at(self, goal):
        """For each kind of head at the goal the row of its makers."""
        _, hand, atom = goal
        lines = self.lines[self.numbers[state_with(hand, atom)]]
        return {kind: lines[kind][1] for kind in lines}

    def count_of(self, size):
        """How many makers of the wish have this size, which is at most that of the beginning."""
        first = self.numbers[state_with(self.outlook.hand, self.outlook.wanted)]
        return self.counts[first][size]
