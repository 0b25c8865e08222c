"""The tests' own looks at shelves: forms, texts, and what deeds mean, told word by word."""

from tests.plainbooks import are_rows, compare, in_order, is_key, is_thing, is_word
from tests.support import ascend, is_count, is_deed


def parts_text(parts):
    return " ".join(str(part) for part in parts)


def text_of(page, content):
    if page == 0:
        line, place, newest, pins = content
        return ";".join([f"{line} {place} {newest}"] + [f"{name}:{pins[name]}" for name in sorted(pins)])
    if page == 1:
        return ";".join((parts_text(key) + ">" if key is not None else "") + str(used) for key, used in content)
    found = []
    for key in in_order(content):
        versions = [str(commit) + ":" + ("-" if thing is None else parts_text(thing)) for commit, thing in content[key]]
        found.append(parts_text(key) + "=" + ",".join(versions))
    return ";".join(found)


def is_content(page, value):
    if page == 0:
        if type(value) is not tuple or len(value) != 4 or not all(is_count(part) for part in value[:3]) or value[0] < 1:
            return False
        return type(value[3]) is dict and all(is_word(name) and is_count(value[3][name]) for name in value[3])
    if page != 1:
        return are_rows(value)
    if type(value) is not list or not value or not all(type(entry) is tuple and len(entry) == 2 for entry in value):
        return False
    if not all(is_count(used) and used > 1 for key, used in value) or len({used for key, used in value}) < len(value):
        return False
    if value[0][0] is not None or not all(is_key(key) for key, used in value[1:]):
        return False
    return all(compare(one[0], other[0]) < 0 for one, other in zip(value[1:], value[2:]))


def is_shelf(value):
    if type(value) is not list or len(value) < 3 or not all(is_content(page, content) for page, content in enumerate(value)):
        return False
    if not all(used < len(value) for key, used in value[1]):
        return False
    return all(len(text_of(page, content)) < 109 for page, content in enumerate(value))


def page_of(shelf, key):
    found = None
    for low, used in shelf[1]:
        if low is None or compare(low, key) <= 0:
            found = used
    return found


def counting(shelf):
    """The rows that count."""
    return {key: shelf[used][key] for low, used in shelf[1] for key in shelf[used] if page_of(shelf, key) == used}


def is_tidy(shelf):
    used = [page for key, page in shelf[1]]
    return all(page in used and page_of(shelf, key) == page for page in range(2, len(shelf)) for key in shelf[page])


def is_meant(value, pages):
    if not is_deed(value) or value[1] >= pages or not value[3] or type(value[3][0]) is not str:
        return False
    number, page, reads, words = value
    word, rest = words[0], words[1:]
    if word == "copy":
        fine = len(rest) == 2 and is_key(rest[0]) and is_count(rest[1]) and 2 <= rest[1] < pages and page >= 2
        return fine and page != rest[1] and reads == sorted([page, rest[1]])
    if reads != [page]:
        return False
    if word in ("pin", "unpin", "begin"):
        if page != 0:
            return False
        if word == "begin":
            return len(rest) == 3 and all(is_count(part) for part in rest) and rest[0] > 0
        if word == "pin":
            return len(rest) == 2 and is_word(rest[0]) and is_count(rest[1])
        return len(rest) == 1 and is_word(rest[0])
    if word in ("point", "unpoint"):
        if page != 1:
            return False
        if word == "unpoint":
            return len(rest) == 1 and is_key(rest[0])
        return len(rest) == 2 and is_key(rest[0]) and is_count(rest[1]) and rest[1] < pages
    if page < 2:
        return False
    if word == "put":
        return len(rest) == 3 and is_key(rest[0]) and is_count(rest[1]) and rest[1] > 0 and (rest[2] is None or is_thing(rest[2]))
    if word == "trim":
        return len(rest) == 1 and is_key(rest[0])
    return word == "clear" and len(rest) == 2 and type(rest[0]) is tuple and ascend(list(rest[0])) and is_count(rest[1])


def refused(shelf, deed):
    page, word, rest = deed[1], deed[3][0], deed[3][1:]
    if word == "put":
        return not all(commit < rest[1] for commit, thing in shelf[page].get(rest[0], []))
    if word == "point":
        return rest[1] < 2 or rest[0] in [key for key, used in shelf[1]] or rest[1] in [used for key, used in shelf[1]]
    if word == "unpoint":
        return rest[0] not in [key for key, used in shelf[1]]
    return word == "unpin" and rest[0] not in shelf[0][3]


def may_go(versions, held, standing):
    """The versions of one key that may go, by ALL commits that matter."""
    last = max([commit for commit, thing in versions] + [standing] + list(held)) + 1
    stay = []
    for commit, thing in versions:
        seeing = [each for each in list(held) + list(range(standing, last + 1))
                  if [number for number, other in versions if number <= each][-1:] == [commit]]
        if seeing and (thing is not None or stay):
            stay.append((commit, thing))
    return [version for version in versions if version not in stay]


def content_behind(shelf, deed):
    page, word, rest = deed[1], deed[3][0], deed[3][1:]
    content = shelf[page]
    if page == 0:
        line, place, newest, pins = content
        late = {name: pins[name] for name in pins if word == "begin" or name != rest[0]}
        if word == "begin":
            line, place, newest = rest
        elif word == "pin":
            late[rest[0]] = rest[1]
        return (line, place, newest, {name: late[name] for name in sorted(late)})
    if word == "unpoint":
        return [entry for entry in content if entry[0] != rest[0]]
    if word == "point":
        pages = {**{key: used for key, used in content[1:]}, rest[0]: rest[1]}
        return content[:1] + [(key, pages[key]) for key in in_order(pages)]
    if word == "put":
        late = {**content, rest[0]: content.get(rest[0], []) + [(rest[1], rest[2])]}
    elif word == "clear":
        late = {key: [version for version in content[key] if version not in may_go(content[key], *rest)] for key in content}
        late = {key: late[key] for key in late if late[key]}
    else:
        late = {key: content[key] for key in content if compare(key, rest[0]) < 0}
        if word == "copy":
            late.update({key: versions for key, versions in shelf[rest[1]].items() if compare(key, rest[0]) >= 0})
    return {key: list(late[key]) for key in in_order(late)}


def behind(shelf, deeds):
    late = list(shelf)
    for deed in deeds:
        late[deed[1]] = content_behind(late, deed)
    return late


def commit_deeds(shelf, commit, writes, number):
    """The deeds of a commit, None if there is no room."""
    late, deeds = list(shelf), []

    def tell(page, reads, words):
        deeds.append((number + len(deeds), page, reads, words))
        late[page] = content_behind(late, deeds[-1])

    for key in in_order(writes):
        put = ("put", key, commit, writes[key])
        while True:
            page = page_of(late, key)
            if len(text_of(page, content_behind(late, (1, page, [page], put)))) <= 108:
                break
            keys = in_order({*late[page], key})
            unused = [each for each in range(2, len(late)) if each not in [used for low, used in late[1]]]
            if len(keys) < 2 or not unused:
                return None
            parting, other = keys[len(keys) // 2], unused[0]
            if len(text_of(1, content_behind(late, (1, 1, [1], ("point", parting, other))))) > 108:
                return None
            tell(other, sorted([page, other]), ("copy", parting, page))
            tell(1, [1], ("point", parting, other))
            tell(page, [page], ("trim", parting))
        tell(page, [page], put)
    return deeds


def join_deeds(shelf, number):
    late, deeds, at = list(shelf), [], 0
    while at + 1 < len(late[1]):
        page, (low, other) = late[1][at][1], late[1][at + 1]
        if len(text_of(2, {**late[page], **late[other]})) > 108:
            at += 1
            continue
        for where, reads, words in [(page, sorted([page, other]), ("copy", low, other)), (1, [1], ("unpoint", low)), (other, [other], ("trim", low))]:
            deeds.append((number + len(deeds), where, reads, words))
            late[where] = content_behind(late, deeds[-1])
    return deeds


def some_key(chance):
    return chance.choice([("on", "ann"), ("on", "bob"), ("a",), (1, "b"), (7,), ("row", "staff", 3), ("zz", "abcdefgh"), ("k", chance.randint(0, 5))])


def some_thing(chance):
    return chance.choice([(), (1,), ("a", 2), ("abcdefgh",) * 3, ("abcdefgh", 999999), None])


def some_tidy(chance, pages, commits):
    """A tidy shelf by chance, of commits that fit, and its newest commit."""
    shelf, newest, number = [(1, 0, 0, {}), [(None, 2)]] + [{} for _ in range(pages - 2)], 0, 1
    for commit in range(1, commits + 1):
        writes = {some_key(chance): some_thing(chance) for _ in range(chance.randint(1, 3))}
        deeds = commit_deeds(shelf, commit, writes, number)
        if deeds is not None:
            shelf, newest, number = behind(shelf, deeds), commit, number + len(deeds)
    if chance.random() < 0.5:
        shelf = behind(shelf, join_deeds(shelf, number))
    if chance.random() < 0.5:
        shelf[0] = (chance.randint(1, 5), chance.randint(0, 3), newest, {"p": 0, "a": newest})
    return shelf, newest
