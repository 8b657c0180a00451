"""Rows of a text that is being made."""


class Script:
    """Rows whose ways are labels, numbers that stand for rows which may come later.

    `sources` tells of the number of a row the row of which it does the step.
    """

    def __init__(self):
        self.lines = []
        self.labels = []
        self.sources = {}

    def new_label(self):
        """Tell a label that has no place yet."""
        self.labels.append(None)
        return len(self.labels) - 1

    def place(self, label):
        """Let a label stand for the row that comes next."""
        self.labels[label] = len(self.lines)

    def put_row(self, row):
        """Put a row in; the ways of `if` and `go` are labels."""
        self.lines.append(row)

    def put_source(self, row):
        """Let the row that comes next do the step of a row."""
        self.sources[len(self.lines)] = row

    def put_onward(self):
        """Put a row in that does nothing."""
        label = self.new_label()
        self.put_row(("go", (label,)))
        self.place(label)

    def put_rest(self):
        """Put a row in at which the hand goes round without an end."""
        label = self.new_label()
        self.place(label)
        self.put_row(("go", (label,)))

    def put_choice(self, box, values):
        """Put rows in that go by the value of a box, one of these; tell a label for each value.

        That of the first value is placed: it stands for the row that comes next.
        """
        labels = [self.new_label() for value in values]
        for label, value in list(zip(labels, values))[1:]:
            self.put_row(("if", box, value, label))
        self.place(labels[0])
        return labels

    def rows(self):
        """Tell the rows with numbers for the labels."""
        told = []
        for row in self.lines:
            if row[0] == "if":
                row = row[:3] + (self.labels[row[3]],)
            elif row[0] == "go":
                row = ("go", tuple(sorted([self.labels[label] for label in row[1]])))
            told.append(row)
        return tuple(told)
