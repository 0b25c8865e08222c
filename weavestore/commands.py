"""Commands of scripts: their forms, and their texts both ways."""

from weavestore.asking import OF_ONE_KEY, OF_TWO_KEYS, is_asked
from weavestore.contents import parts_text, read_part, read_parts
from weavestore.figures import figures_of
from weavestore.keys import is_key, is_thing
from weavestore.kinds import is_count, is_word

BARE = ("sync", "root", "clear", "join", "wake", "newest", "standing", "mixed_pages", "free_places", "is_down")
OF_NAME = ("give_up", "end", "unpin", "would_end", "turned_looks")
OF_COUNT = ("write_back", "mend", "cut", "why_not_write")
LENGTHS = {"begin": 3, "ask": 3, "put": 4, "drop": 3, "pin": 3, "fall": 2, "try": 2}
INDENT = "  "


def are_choices(value):
    """Whether any object is a list of counts."""
    return isinstance(value, list) and all([is_count(part) for part in value])


def is_command(value):
    """Whether any object is a command of a script."""
    if not isinstance(value, tuple) or not value or not isinstance(value[0], str):
        return False
    word = value[0]
    if word in BARE:
        return len(value) == 1
    if word in OF_NAME:
        return len(value) == 2 and is_word(value[1])
    if word in OF_COUNT:
        return len(value) == 2 and is_count(value[1])
    if word not in LENGTHS or len(value) != LENGTHS[word]:
        return False
    if word == "fall":
        return are_choices(value[1])
    if word == "try":
        return are_commands(value[1])
    return is_word(value[1]) and are_parts(word, value[2:])


def are_parts(word, parts):
    """Whether the parts behind the name are those that a command has."""
    if word == "begin":
        return is_word(parts[0])
    if word == "ask":
        return is_asked(parts[0])
    if word == "put":
        return is_key(parts[0]) and is_thing(parts[1])
    if word == "drop":
        return is_key(parts[0])
    return is_count(parts[0])


def are_commands(value):
    """Whether any object is a script."""
    return isinstance(value, list) and all([is_command(command) for command in value])


def fresh_script(script):
    """A script like one, with lists of its own."""
    found = []
    for command in script:
        if command[0] == "try":
            found.append(("try", fresh_script(command[1])))
        elif command[0] == "fall":
            found.append(("fall", list(command[1])))
        else:
            found.append(command)
    return found


def question_text(question):
    """The text of a question."""
    if question[0] == "find":
        return "find " + question[1]
    return question[0] + " " + "<".join([parts_text(key) for key in question[1:]])


def command_text(command):
    """The text of a command that is no try."""
    word = command[0]
    if word in OF_COUNT:
        return word + " " + figures_of(command[1])
    if word == "pin":
        return "pin " + command[1] + " " + figures_of(command[2])
    if word == "ask":
        return "ask " + command[1] + " " + question_text(command[2])
    if word == "put":
        return "put " + command[1] + " " + parts_text(command[2]) + "=" + parts_text(command[3])
    if word == "drop":
        return "drop " + command[1] + " " + parts_text(command[2])
    if word == "fall":
        return " ".join(["fall"] + [figures_of(choice) for choice in command[1]])
    return " ".join(command)


def script_lines(script):
    """The lines of the text of a script."""
    lines = []
    for command in script:
        if command[0] == "try":
            inner = [INDENT + line for line in script_lines(command[1])]
            lines.extend(["try", *inner, "end"])
        else:
            lines.append(command_text(command))
    return lines


def text_of_script(script):
    """The text of a script."""
    return "\n".join(script_lines(script))


def read_question(text):
    """The question of which this might be the text, None where it begins with another word."""
    word, _, rest = text.partition(" ")
    if word == "find":
        return (word, rest)
    if word in OF_ONE_KEY:
        return (word, read_parts(rest))
    if word in OF_TWO_KEYS:
        low, _, high = rest.partition("<")
        return (word, read_parts(low), read_parts(high))
    return None


def read_with_name(word, name, rest):
    """The command with a name and something behind it of which this might be the text."""
    if word == "begin":
        return (word, name, rest)
    if word == "ask":
        return (word, name, read_question(rest))
    if word == "put":
        key, _, thing = rest.partition("=")
        return (word, name, read_parts(key), () if thing == "" else read_parts(thing))
    if word == "drop":
        return (word, name, read_parts(rest))
    return (word, name, read_part(rest))


def read_command(text):
    """The command that is no try of which this might be the text."""
    word, _, rest = text.partition(" ")
    if word in BARE:
        return (word,)
    if word in OF_NAME:
        return (word, rest)
    if word in OF_COUNT:
        return (word, read_part(rest))
    if word == "fall":
        return (word, [] if rest == "" else list(read_parts(rest)))
    name, _, more = rest.partition(" ")
    return read_with_name(word, name, more)


def script_of_text(text):
    """The script that has a text, None if there is none."""
    scripts = [[]]
    for line in text.split("\n") if text != "" else []:
        told = line.lstrip(" ")
        if told == "try":
            scripts.append([])
        elif told != "end":
            scripts[-1].append(read_command(told))
        elif len(scripts) == 1:
            return None
        else:
            inner = scripts.pop()
            scripts[-1].append(("try", inner))
    # What is read may be written otherwise, so it is held against what would be written.
    if len(scripts) > 1 or not are_commands(scripts[0]) or text_of_script(scripts[0]) != text:
        return None
    return scripts[0]
