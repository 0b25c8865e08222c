"""The tests' own looks at histories and programs: forms, and the plain row told word by word."""

from tests.plainbooks import in_order, is_key, is_part, is_thing, is_word, lies_between
from tests.plaintables import WORDS
from tests.support import is_count, is_in, shape


def is_plain_key(value):
    return is_key(value) and value[0] not in WORDS


def is_pair(value):
    return type(value) is tuple and len(value) == 2 and is_key(value[0]) and is_thing(value[1])


def are_pairs(value):
    return type(value) is list and all(is_pair(part) for part in value)


def is_question(value):
    if type(value) is not tuple or not value or type(value[0]) is not str:
        return False
    many = {"look": 2, "first": 2, "between": 3, "many": 3, "any": 3}.get(value[0])
    return many == len(value) and all(is_key(key) for key in value[1:])


def is_answer_to(word, value):
    if word == "look":
        return value is None or is_thing(value)
    if word == "first":
        return value is None or is_pair(value)
    return {"between": are_pairs, "many": is_count, "any": lambda told: type(told) is bool}[word](value)


def is_answer(value):
    return any(is_answer_to(word, value) for word in ["look", "first", "between", "many", "any"])


def is_outcome(value):
    if type(value) is not tuple or not value or type(value[0]) is not str:
        return False
    if value[0] == "refused":
        return len(value) == 4 and is_count(value[1]) and is_answer(value[2]) and is_answer(value[3])
    least = {"committed": 1, "ended": 0}.get(value[0])
    return least is not None and len(value) == 2 and is_count(value[1]) and value[1] >= least


def is_event(value):
    if type(value) is not tuple or not value or type(value[0]) is not str:
        return False
    word, rest = value[0], value[1:]
    if word == "stand":
        return rest == ()
    if word == "fall":
        return len(rest) == 1 and is_count(rest[0])
    if not rest or not is_word(rest[0]):
        return False
    parts = rest[1:]
    if word == "begin":
        return len(parts) == 1 and type(parts[0]) is str and parts[0] in ("reader", "writer")
    if word == "ask":
        return len(parts) == 2 and is_question(parts[0]) and is_answer_to(parts[0][0], parts[1])
    if word == "put":
        return len(parts) == 2 and is_plain_key(parts[0]) and is_thing(parts[1])
    if word == "drop":
        return len(parts) == 1 and is_plain_key(parts[0])
    if word == "end":
        return len(parts) == 1 and is_outcome(parts[0])
    return word == "give up" and parts == ()


def is_history(value):
    return type(value) is list and all(is_event(event) for event in value)


def told(state, question):
    """What a plain question tells over a state."""
    keys = in_order(state)
    if question[0] == "look":
        return state.get(question[1])
    if question[0] == "first":
        late = [key for key in keys if not lies_between((0,), key, question[1]) or key == question[1]]
        late = [key for key in late if in_order([key, question[1]])[0] == question[1]]
        return (late[0], state[late[0]]) if late else None
    found = [(key, state[key]) for key in keys if lies_between(question[1], key, question[2])]
    return {"between": found, "many": len(found), "any": found != []}[question[0]]


def laid(state, writes):
    late = {**state, **writes}
    return {key: late[key] for key in in_order(late) if late[key] is not None}


class Plain:
    """The plain row by states of commits alone, and what became of each transaction."""

    def __init__(self, history):
        self.states, self.standing, self.names, self.fates, self.ends = [{}], 0, {}, {}, {}
        self.wrong, self.right, self.bounds = None, None, [(0, 0)]
        self.steps = {}
        for place, event in enumerate(history):
            right = self.come(place, event)
            if right is None or shape(right) != shape(event):
                self.wrong, self.right = place, right
                return
            self.bounds.append((self.standing, len(self.states) - 1))

    def come(self, place, event):
        word = event[0]
        if word == "stand":
            self.standing = len(self.states) - 1
            return event
        if word == "fall":
            if not self.standing <= event[1] < len(self.states):
                return None
            self.states, self.standing, self.names = self.states[: event[1] + 1], event[1], {}
            for begin, fate in self.fates.items():
                if fate[0] == "under way" or fate[0] in ("committed", "ended") and fate[1] > event[1]:
                    self.fates[begin] = ("lost",)
            return event
        name = event[1]
        if word == "begin":
            if name in self.names:
                return None
            snapshot = self.standing if event[2] == "reader" else len(self.states) - 1
            self.names[name] = (place, event[2], snapshot, [], {})
            self.fates[place] = ("under way",)
            self.steps[place] = []
            return event
        if name not in self.names:
            return None
        begin, kind, snapshot, looks, writes = self.names[name]
        if word in ("put", "drop"):
            if kind == "reader":
                return None
            writes[event[2]] = event[3] if word == "put" else None
        if word in ("put", "drop", "ask"):
            self.steps[begin].append(event)
        if word == "ask":
            looks.append((event[2], told(laid(self.states[snapshot], writes), event[2]), dict(writes)))
            return (*event[:3], looks[-1][1])
        if word == "give up":
            del self.names[name]
            self.fates[begin] = ("given up",)
        if word == "end":
            outcome = self.outcome(snapshot, looks, writes)
            if shape(outcome) != shape(event[2]):
                return (*event[:2], outcome)
            if outcome[0] == "committed":
                self.states.append(laid(self.states[-1], writes))
            del self.names[name]
            self.fates[begin], self.ends[begin] = outcome, place
        return event

    def outcome(self, snapshot, looks, writes):
        if not writes:
            return ("ended", snapshot)
        for place, (question, elder, own) in enumerate(looks):
            newer = told(laid(self.states[-1], own), question)
            if newer != elder:
                return ("refused", place, elder, newer)
        return ("committed", len(self.states))

    def lasting(self):
        return [place for place, fate in self.fates.items() if fate[0] in ("committed", "ended")]

    def told_places(self):
        found = {}
        for place in self.lasting():
            late = [at for at in range(self.ends[place], len(self.bounds) - 1)
                    if self.bounds[at + 1][0] >= self.fates[place][1]]
            found[place] = late[0] if late else None
        return found

    def is_row(self, row):
        """Whether a row of the lasting ones is one, done alone one after the other."""
        places = self.told_places()
        if sorted(row) != self.lasting():
            return False
        for at, place in enumerate(row):
            if any(places[late] is not None and places[late] < place for late in row[at + 1:]):
                return False
        state = {}
        for place in row:
            writes = {}
            for event in self.steps[place]:
                if event[0] == "ask" and told(laid(state, writes), event[2]) != event[3]:
                    return False
                if event[0] != "ask":
                    writes[event[2]] = event[3] if event[0] == "put" else None
            state = laid(state, writes)
        return state == self.states[-1]


def some_history(chance, many, names, keys):
    """A right history by chance, told by the plain row itself."""
    history = []
    while len(history) < many:
        event = some_event(chance, Plain(history), names, keys)
        late = Plain(history + [event])
        if late.wrong is None:
            history.append(event)
        elif late.right is not None:
            history.append(late.right)
    return history


def some_question(chance, keys):
    word = chance.choice(["look", "between", "many", "any", "first"])
    one, other = chance.choice(keys), chance.choice(keys + [("zz",)])
    return (word, one) if word in ("look", "first") else (word, one, other)


def some_event(chance, plain, names, keys):
    name = chance.choice(names)
    if name not in plain.names:
        word = chance.choice(["begin"] * 20 + ["stand", "stand", "fall"])
    else:
        word = chance.choice(["ask", "put", "end"] * 8 + ["drop", "drop", "give up", "stand", "fall"])
    if word == "begin":
        return (word, name, chance.choice(["reader", "writer", "writer"]))
    if word == "ask":
        question = some_question(chance, keys)
        empty = {"look": None, "first": None, "between": [], "many": 0, "any": False}
        return (word, name, question, empty[question[0]])
    if word == "put":
        return (word, name, chance.choice(keys), chance.choice([(), (1,), (2,), ("a", 1)]))
    if word == "drop":
        return (word, name, chance.choice(keys))
    if word == "end":
        return (word, name, ("ended", 0))
    if word == "give up":
        return (word, name)
    if word == "stand":
        return ("stand",)
    return ("fall", chance.randint(plain.standing, len(plain.states) - 1))


def is_expression(value):
    if type(value) is not tuple or len(value) > 6:
        return False
    for part in value:
        box = type(part) is tuple and len(part) == 2 and is_in(part[0], ["box"]) and is_word(part[1])
        more = type(part) is tuple and len(part) == 3 and is_in(part[0], ["more"]) and is_word(part[1]) and is_count(part[2])
        if not is_part(part) and not box and not more:
            return False
    return True


def is_step(value, left):
    if type(value) is not tuple or not value or type(value[0]) is not str:
        return False
    word, rest = value[0], value[1:]
    if word == "ask":
        return len(rest) == 2 and is_word(rest[0]) and is_question(rest[1])
    if word == "put":
        return len(rest) == 2 and is_plain_key(rest[0]) and is_expression(rest[1])
    if word == "drop":
        return len(rest) == 1 and is_plain_key(rest[0])
    if word != "unless" or len(rest) != 3:
        return False
    return is_word(rest[0]) and is_answer(rest[1]) and is_count(rest[2]) and 1 <= rest[2] <= left


def is_program(value):
    return type(value) is list and value != [] and all(is_step(step, len(value) - 1 - at) for at, step in enumerate(value))


def are_programs(value):
    return type(value) is list and value != [] and all(is_program(program) for program in value)


def number_in(box):
    """The number of what a box holds."""
    if type(box) is bool or box is None:
        return 1 if box is True else 0
    if type(box) is int:
        return box
    if type(box) is list:
        return len(box)
    if is_pair(box):
        return number_in(box[1])
    return box[0] if box and type(box[0]) is int else 0


def run_alone(state, program):
    """The looks with their own writes, the writes, and how many steps that are no leaps are done."""
    looks, writes, boxes, many, at = [], {}, {}, 0, 0
    while at < len(program):
        step = program[at]
        at += 1
        if step[0] == "unless":
            if shape(boxes.get(step[1])) != shape(step[2]):
                at += step[3]
            continue
        many += 1
        if step[0] == "ask":
            boxes[step[1]] = told(laid(state, writes), step[2])
            looks.append((step[2], boxes[step[1]], dict(writes)))
        elif step[0] == "drop":
            writes[step[1]] = None
        else:
            parts = []
            for part in step[2]:
                if type(part) is tuple:
                    part = min(999999, number_in(boxes.get(part[1])) + (part[2] if part[0] == "more" else 0))
                parts.append(part)
            writes[step[1]] = tuple(parts)
    return looks, {key: writes[key] for key in in_order(writes)}, many
