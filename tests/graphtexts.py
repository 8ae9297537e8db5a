"""Where a graph text is wrong, told in another way than the program finds it."""

import re

TOKEN = re.compile(r"""(?P<brand>[A-Za-z][A-Za-z0-9_.]{0,39}\{)
    |(?P<atom>None|True|False)|(?P<integer>-?[0-9]+)|(?P<text>"(?:[^"\\\n]|\\["\\n])*")|(?P<octets><(?:[0-9a-f]{2})*>)
    |(?P<giving>\#[0-9]+=)|(?P<given>\#[0-9]+)|(?P<sign>,\)|,[ ]|:[ ]|[()\[\]{}])""", re.VERBOSE)
CLOSING = {"(": ")", "[": "]", "{": "}", "bag{": "}", "thing{": "}"}
NUMERAL = re.compile(r"0|-?[1-9][0-9]{0,299}")
VALUES = {"atom", "integer", "text", "octets", "giving", "given", "(", "[", "{", "brand"}
NODES = {"octets", "(", "[", "{", "brand"}


class Frame:
    """A node that is open, or that was."""

    def __init__(self, kind):
        self.kind, self.values, self.keys = kind, [], []

    def reaches(self, other):
        """Tell whether a Pack contains another one by way of Packs only, or is it."""
        packs, met = [self], []
        while packs:
            pack = packs.pop()
            if pack not in met:
                met.append(pack)
                packs += [value for value in pack.values if value.kind == "("]
        return other in met


def wrong_offset(text):
    """Return the offset at which a graph text is wrong, or None."""
    stack, given, at = [Frame("top")], [], 0
    expected, numbering = VALUES, False
    while at < len(text):
        token = TOKEN.match(text, at)
        kind = token and token.lastgroup
        word = token and token.group()
        frame = stack[-1]
        if kind == "sign":
            kind = word
        if kind not in expected or not is_fitting(kind, word, frame, given, expected, numbering, len(stack)):
            return at
        at = token.end()
        if kind == "giving":
            numbering, expected = True, NODES
            continue
        expected, numbering = step(kind, word, stack, given, expected, numbering), False
    return None if expected == {"nothing"} else len(text)


def is_fitting(kind, word, frame, given, expected, numbering, depth):
    """Tell whether a token is right by itself and by what stands ahead of it."""
    number = word.strip("#=")
    if kind in ("integer", "giving", "given") and not NUMERAL.fullmatch(number):
        return False
    if kind == "giving":
        return int(number) == len(given)
    if kind == "given":
        if int(number) >= len(given):
            return False
        node = given[int(number)]
        return not (frame.kind == node.kind == "(" and node.reaches(frame))
    if kind == "text" and len(content_of(word)) > 2000:
        return False
    if kind == "octets" and len(word) > 4002:
        return False
    if kind in NODES and depth > 50:
        return False
    if VALUES - expected and kind in ("integer", "text") and frame.kind in ("{", "bag{", "thing{"):
        return is_new_key(content_of(word), frame)
    return True


def content_of(word):
    """Return the key that a token stands for."""
    if not word.startswith('"'):
        return int(word)
    return re.sub(r"\\(.)", lambda found: "\n" if found.group(1) == "n" else found.group(1), word[1:-1])


def is_new_key(key, frame):
    """Tell whether a key can be the next one."""
    if frame.kind == "bag{":
        order = [(isinstance(other, str), other) for other in [*frame.keys[-1:], key]]
        return len(order) == 1 or order[0] < order[1]
    return key not in frame.keys


def step(kind, word, stack, given, expected, numbering):
    """Change the stack by a token that is right, and return what is expected then."""
    frame = stack[-1]
    if kind == ": ":
        return VALUES
    if kind == ", ":
        return entries_of(frame)
    if kind in NODES:
        opened = Frame({"bag{": "bag{"}.get(word, "thing{") if kind == "brand" else kind)
        frame.values.append(opened)
        if numbering:
            given.append(opened)
        if kind != "octets":
            stack.append(opened)
            return entries_of(opened) | {CLOSING[opened.kind]}
    elif kind == "given":
        frame.values.append(given[int(word[1:])])
    elif kind in (")", ",)", "]", "}"):
        stack.pop()
    elif VALUES - expected and frame.kind in ("{", "bag{", "thing{"):
        frame.keys.append(content_of(word))
        return {": "} if frame.kind != "bag{" else {", ", "}"}
    else:
        frame.values.append(Frame("atom"))
    return behind_value(stack[-1])


def entries_of(frame):
    """Return the kinds of tokens with which an entry begins."""
    kinds = {"(": VALUES, "[": VALUES, "thing{": {"text"}}
    return kinds.get(frame.kind, {"integer", "text"})


def behind_value(frame):
    """Return the kinds of tokens that can stand behind a value in a node."""
    if frame.kind == "top":
        return {"nothing"}
    if frame.kind == "(" and len(frame.values) == 1:
        return {",)", ", "}
    return {", ", CLOSING[frame.kind]}
