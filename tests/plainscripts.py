"""The tests' own looks at scripts: forms, texts, and what is said."""

from tests.plainbooks import is_key, is_thing, is_word
from tests.support import errors, is_count
from tests.test_arguments_tables import is_question
from weavestore.disc import may_hold
from weavestore.store import Store

BARE = ["sync", "root", "clear", "join", "wake", "newest", "standing", "mixed_pages", "free_places", "is_down"]
FORMS = {
    "begin": [is_word, is_word], "ask": [is_word, is_question], "put": [is_word, is_key, is_thing], "drop": [is_word, is_key], "give_up": [is_word],
    "end": [is_word], "pin": [is_word, is_count], "unpin": [is_word], "write_back": [is_count], "mend": [is_count], "cut": [is_count],
    "would_end": [is_word], "turned_looks": [is_word], "why_not_write": [is_count], **{word: [] for word in BARE},
}


def is_command(value):
    if type(value) is not tuple or not value or type(value[0]) is not str:
        return False
    if value[0] == "fall":
        return len(value) == 2 and type(value[1]) is list and all(is_count(part) for part in value[1])
    if value[0] == "try":
        return len(value) == 2 and is_script(value[1])
    forms = FORMS.get(value[0])
    return forms is not None and len(forms) == len(value) - 1 and all(fits(part) for fits, part in zip(forms, value[1:]))


def is_script(value):
    return type(value) is list and all(is_command(command) for command in value)


def parts_text(parts):
    return " ".join(str(part) for part in parts)


def text_of(script, depth=0):
    lines = []
    for command in script:
        word, rest = command[0], command[1:]
        if word == "try":
            inner = text_of(rest[0], depth + 1)
            lines += ["  " * depth + "try"] + ([inner] if inner else []) + ["  " * depth + "end"]
            continue
        if word == "ask":
            question = rest[1]
            told = question[1] if question[0] == "find" else "<".join(parts_text(key) for key in question[1:])
            pieces = [rest[0], question[0], told]
        elif word == "put":
            pieces = [rest[0], parts_text(rest[1]) + "=" + parts_text(rest[2])]
        elif word == "drop":
            pieces = [rest[0], parts_text(rest[1])]
        elif word == "fall":
            pieces = [str(choice) for choice in rest[0]]
        else:
            pieces = [str(part) for part in rest]
        lines.append("  " * depth + " ".join([word] + pieces))
    return "\n".join(lines)


def picture_by(disc, choices):
    picture, many = disc.standing(), 0
    for cell in range(disc.cells()):
        held = may_hold(disc, cell)
        if len(held) > 1 and choices:
            picture[cell] = held[choices[many % len(choices)] % len(held)]
            many += 1
    return picture


def plain_play(store, script):
    said = []
    for command in script:
        try:
            if command[0] == "try":
                with store.trial():
                    said.append(("tried", plain_play(store, command[1])))
                continue
            rest = [picture_by(store.disc(), command[1])] if command[0] == "fall" else command[1:]
            told = getattr(store, command[0])(*rest)
            said.append(("done",) if told is None else ("told", told))
        except errors.StoreError as error:
            said.append(("refused", error.__class__.__name__))
    return said


def plain_end(pages, places, script):
    store = Store(pages, places)
    plain_play(store, script)
    return None if store.is_down() else (store.newest(), store.book().rows())


def some_command(chance, depth):
    name, key = chance.choice("ab"), chance.choice([("on", "ann"), ("on", "bob"), ("k", 7), ("row", "x", 1)])
    word = chance.choice(["begin"] * 3 + ["put"] * 4 + ["end"] * 4 + ["sync"] * 3 + ["write_back"] * 3 + ["wake"] * 2 + sorted(FORMS) + ["fall"] * 2 + ["try"] * 2)
    if word == "try":
        return (word, some_script(chance, 4, depth - 1)) if depth else ("sync",)
    if word == "fall":
        return (word, [chance.randint(0, 3) for _ in range(chance.choice([0, 0, 1, 2, 5]))])
    if word == "begin":
        return (word, name, chance.choice(["writer", "writer", "writer", "reader", "nobody"]))
    if word == "ask":
        return (word, name, chance.choice([("look", key), ("first", key), ("many", ("on",), ("oo",)), ("between", ("k",), ("l", 0)), ("any", (0,), (1,)), ("find", "count staff")]))
    parts = {is_word: lambda: name, is_count: lambda: chance.choice([0, 1, 2, 2, 3, 12, 60]), is_key: lambda: key,
             is_thing: lambda: chance.choice([(), (1, "a"), ("abcdefgh",) * 4])}
    return (word, *[parts[fits]() for fits in FORMS[word]])


def some_script(chance, most, depth=3):
    return [some_command(chance, depth) for _ in range(chance.randint(0, most))]
