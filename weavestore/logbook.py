"""The lines of a store's log that are not given up, in a ring of places."""


class Logbook:
    """The lines that are not given up, one behind the other from a first place on, and what comes next.

    Ahead of the first line, so also where there is none, the number ahead is the one that it names.
    """

    def __init__(self, places, root_line, first_place, lines):
        self.places = places
        self.root_line = root_line
        self.first_place = first_place
        self.held_lines = lines
        self.number_ahead = lines[-1][0] if lines else root_line - 1

    def twin(self):
        """A logbook like this one that goes its own way."""
        other = Logbook(self.places, self.root_line, self.first_place, list(self.held_lines))
        other.number_ahead = self.number_ahead
        return other

    def free(self):
        """How many places are free."""
        return self.places - len(self.held_lines)

    def place_at(self, at):
        """The place of the line at a position, of the next one where it is behind all."""
        return (self.first_place + at) % self.places

    def next_place(self):
        """The place of the next line."""
        return self.place_at(len(self.held_lines))

    def add_line(self, line):
        """Adds a line in the next place."""
        self.held_lines.append(line)
        self.number_ahead = line[0]

    def deeds_held(self):
        """The list of the deeds of the lines."""
        return [line[3] for line in self.held_lines]

    def give_up(self, root_line):
        """Gives up the lines below a number, and returns the list of their places."""
        self.root_line = root_line
        many = len([line for line in self.held_lines if line[0] < root_line])
        places = [self.place_at(at) for at in range(many)]
        self.first_place = self.place_at(many)
        self.held_lines = self.held_lines[many:]
        return places
