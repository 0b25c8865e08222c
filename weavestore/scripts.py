"""Scripts: commands that are carried out on a store, with falls by choices and tries within tries."""

from weavestore.again import THINGS, make_again
from weavestore.commands import are_choices, are_commands, fresh_script, script_of_text, text_of_script
from weavestore.disc import held_by_cells
from weavestore.errors import Fallen, Full, InvalidChoice, InvalidCommit, InvalidKey, InvalidKind, InvalidName
from weavestore.errors import InvalidPage, InvalidScript, InvalidStore, InvalidText, Refused
from weavestore.store import Store


def need_script(script):
    """Raises InvalidScript unless it is a script."""
    if not are_commands(script):
        raise InvalidScript(script)


def picture_by(disc, choices):
    """The picture of a disc in which choices, over and over, tell what the cells with several contents hold."""
    held = held_by_cells(disc)
    if not choices:
        return [contents[0] for contents in held]
    picture = []
    many = 0
    for contents in held:
        if len(contents) == 1:
            picture.append(contents[0])
        else:
            picture.append(contents[choices[many % len(choices)] % len(contents)])
            many = many + 1
    return picture


def asked_of(store, command):
    """What a command tells that is no deed of a record."""
    word = command[0]
    if word == "would_end":
        return store.would_end(command[1])
    if word == "turned_looks":
        return store.turned_looks(command[1])
    if word == "why_not_write":
        return store.why_not_write(command[1])
    if word == "newest":
        return store.newest()
    if word == "standing":
        return store.standing()
    if word == "mixed_pages":
        return store.mixed_pages()
    if word == "free_places":
        return store.free_places()
    return store.is_down()


def carried_out(store, command):
    """What is said of a command that raises no error."""
    told = None
    if command[0] == "try":
        with store.trial() as block:
            return ("tried", played(block, command[1]))
    if command[0] == "fall":
        store.fall(picture_by(store.disc(), command[1]))
    elif command[0] in THINGS:
        told = make_again(store, command)
    else:
        told = asked_of(store, command)
    return ("done",) if told is None else ("told", told)


def said_of(store, command):
    """What is said of a command."""
    try:
        return carried_out(store, command)
    except Fallen:
        return ("refused", "Fallen")
    except Full:
        return ("refused", "Full")
    except Refused:
        return ("refused", "Refused")
    except InvalidName:
        return ("refused", "InvalidName")
    except InvalidKind:
        return ("refused", "InvalidKind")
    except InvalidKey:
        return ("refused", "InvalidKey")
    except InvalidCommit:
        return ("refused", "InvalidCommit")
    except InvalidPage:
        return ("refused", "InvalidPage")


def played(store, script):
    """The list of what is said of the commands of a script."""
    return [said_of(store, command) for command in script]


def play(store, script):
    """Carries a script out on a store, and returns the list of what is said."""
    if not isinstance(store, Store):
        raise InvalidStore(store)
    need_script(script)
    return played(store, script)


def script_text(script):
    """Returns the text of a script."""
    need_script(script)
    return text_of_script(script)


def read_script(text):
    """Returns the script that has a text."""
    script = script_of_text(text) if isinstance(text, str) else None
    if script is None:
        raise InvalidText(text)
    return script


def end_by(store, script):
    """The end of a store behind a script, which is played on a copy."""
    late = store.copy()
    played(late, script)
    if late.is_down():
        return None
    return (late.newest(), late.book().rows())


def new_store(pages, places, script):
    """A new store; raises InvalidCount, then InvalidScript, unless they are counts for one, and a script."""
    store = Store(pages, places)
    need_script(script)
    return store


def end_of(pages, places, script):
    """Returns the newest commit and the rows of a new store behind a script, None if it is down."""
    return end_by(new_store(pages, places, script), script)


def shortened(pages, places, script):
    """Returns what is left of a script if each command is left out without which the end is the same."""
    store = new_store(pages, places, script)
    end = end_by(store, script)
    ahead = []
    for command in script:
        ahead.append(store.copy())
        said_of(store, command)
    left = []
    for at in range(len(script) - 1, -1, -1):
        if end_by(ahead[at], left) != end:
            left = [script[at]] + left
    return fresh_script(left)


def are_all_choices(value):
    """Whether any object is a list of lists of counts."""
    return isinstance(value, list) and all([are_choices(choices) for choices in value])


def ends_by_choices(pages, places, script, lists):
    """Returns the list of the ends if the last fall of a script in no try has these choices, one after the other."""
    store = new_store(pages, places, script)
    if not are_all_choices(lists):
        raise InvalidChoice(lists)
    falls = [at for at, command in enumerate(script) if command[0] == "fall"]
    if not falls:
        raise Refused(script)
    played(store, script[: falls[-1]])
    behind = script[falls[-1] + 1 :]
    return [end_by(store, [("fall", choices)] + behind) for choices in lists]
