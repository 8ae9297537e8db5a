"""The table of the opcodes as the document has it, and streams as readable words."""

import re

# A line for each form of argument, copied from the document.
FORMS = {
    "none": "160 stop, 163 none, 164 false, 165 true, 174 mark, 175 drop, 176 drop-to-mark, 177 pack, "
            "178 pack-0 (2), 179 pack-1 (2), 180 pack-2 (2), 181 pack-3 (2), 182 row, 183 append, "
            "184 append-all (2), 185 book, 186 enter, 187 enter-all (2), 188 bag (4), 189 add-all (4), "
            "193 put-next (3), 198 class-text (4), 199 make, 200 build, 202 outer-text (2)",
    "line": "166 integer-line, 169 text-line, 172 octets-line, 190 put-line, 194 get-line, 197 class-line, "
            "201 outer-line",
    "octet": "161 version (2), 167 integer-octet (2), 191 put-octet (2), 195 get-octet (2)",
    "wide": "162 frame (4), 192 put-wide (2), 196 get-wide (2)",
    "counted": "168 integer-counted (2), 171 text-short (3)",
    "wide counted": "170 text-wide (2), 173 octets-wide (3)",
}


def table():
    """Return the dict of the numbers with their names, forms and versions, in ascending order."""
    rows = {}
    for form, line in FORMS.items():
        for entry in line.split(", "):
            number, name, version = re.fullmatch(r"(\d+) (\S+)(?: \((\d)\))?", entry).groups()
            rows[int(number)] = (name, form, int(version or 1))
    return dict(sorted(rows.items()))


TABLE = table()


def little(octets, signed=False):
    """Return the integer with these octets, the least significant one first."""
    return int.from_bytes(bytes(octets), "little", signed=signed)


def argument_at(stream, offset, name, form):
    """Return the text of an argument that begins at the offset, and the offset behind it."""
    if form == "none":
        return "", offset
    if form == "line":
        end = stream.index(10, offset)
        return bytes(stream[offset:end]).decode(), end + 1
    if form in ("octet", "wide"):
        end = offset + (1 if form == "octet" else 4)
        return str(little(stream[offset:end])), end
    start = offset + (1 if form == "counted" else 4)
    end = start + little(stream[offset:start])
    content = stream[start:end]
    assert len(content) == end - start
    if name == "integer-counted":
        return f"{little(content, True)}/{len(content)}", end
    return repr(bytes(content).decode()) if name.startswith("text") else bytes(content).hex(), end


def listing(stream):
    """Return the opcodes of a stream with their arguments, separated by semicolons."""
    words, offset = [], 0
    while offset < len(stream):
        name, form, _ = TABLE[stream[offset]]
        argument, offset = argument_at(stream, offset + 1, name, form)
        words.append(f"{name} {argument}".rstrip(" "))
    return "; ".join(words)


def plain(stream):
    """Return the listing without version, frames and the stop at the end."""
    words = [word for word in listing(stream).split("; ") if word.split(" ")[0] not in ("version", "frame")]
    assert words[-1] == "stop"
    return "; ".join(words[:-1])
